/-
  What the rows' lists say of chapter 4's ranges and of the table of scores, cell by cell; a world for the witness in which they lie.
-/
import Derived.Test.YtjpfmckoodalnaaDoorTabV
import Derived.Test.YtjpfmckoodalnaaDoorTbI
namespace Go.Proofs.YtjpfmckoodalnaaDoor
open Go.ChangeShapes Go.WideShapes Go.ChangeAt Go.RowKit Go.Joins

theorem columnsG4 : Tryd.prog.globalNamed "loop.example/g00886/impl.columnsSpan" = some 4 := by kernel_rfl
theorem columnsTy4 : (Tryd.prog.globals[4]?).map (·.type) = some 52 := by kernel_rfl
theorem oddsG4 : Tryd.prog.globalNamed "loop.example/g00886/impl.oddsSpan" = some 5 := by kernel_rfl
theorem oddsTy4 : (Tryd.prog.globals[5]?).map (·.type) = some 52 := by kernel_rfl
theorem diceG4 : Tryd.prog.globalNamed "loop.example/g00886/impl.tableDiceSpan" = some 3 := by kernel_rfl
theorem diceTy4 : (Tryd.prog.globals[3]?).map (·.type) = some 52 := by kernel_rfl
theorem resultG4 : Tryd.prog.globalNamed "loop.example/g00886/impl.resultSpan" = some 2 := by kernel_rfl
theorem resultTy4 : (Tryd.prog.globals[2]?).map (·.type) = some 52 := by kernel_rfl
theorem cshiftG4 : Tryd.prog.globalNamed "loop.example/g00886/impl.columnShiftSpan" = some 1 := by kernel_rfl
theorem cshiftTy4 : (Tryd.prog.globals[1]?).map (·.type) = some 52 := by kernel_rfl

/-- The program's table of scores, as its text lays it. -/
def ScoAt (w : World) : Prop := ∀ j : Nat, j < 8 → w.cell? ⟨0, j, none⟩ = some (.int .i64 (scoI j))
theorem ScoAt.keep {w w' : World} (h : ScoAt w) (k : Kp w w') : ScoAt w' := fun j hj => k.cell (h j hj)
theorem scoresG : Tryd.prog.globalNamed "loop.example/g00886/impl.resultScores" = some 0 := by kernel_rfl
theorem scoresTy : (Tryd.prog.globals[0]?).map (·.type) = some 42 := by kernel_rfl
theorem sco_datum {H : Type} (d : Nat) (h : d < 8) :
    ([.lit (.int .i64 0), .lit (.int .i64 1), .lit (.int .i64 2), .lit (.int .i64 3), .lit (.int .i64 (-1)), .lit (.int .i64 (-2)), .lit (.int .i64 (-3)), .lit (.int .i64 0)] : List (DataW H))[d]? = some (.lit (.int .i64 (scoI d))) := by
  match d, h with
  | 0, _ => rfl
  | 1, _ => rfl
  | 2, _ => rfl
  | 3, _ => rfl
  | 4, _ => rfl
  | 5, _ => rfl
  | 6, _ => rfl
  | 7, _ => rfl
theorem scores_of {W : World} (h : ∃ g t cs fuel p, Tryd.prog.globalNamed "loop.example/g00886/impl.resultScores" = some g ∧ (Tryd.prog.globals[g]?).map (·.type) = some t ∧ W.var? Tryd.prog "loop.example/g00886/impl.resultScores" = some cs ∧ DataW.trod (fun _ => ()) Tryd.prog W 0 (fun _ => true) false fuel t cs.toList = some (Rows.laid_loop_example_g00886_impl_resultScores, p)) : ScoAt W := by
  obtain ⟨g', t', cs, fuel, p, hg', ht', hvar, hd⟩ := h
  obtain rfl := Option.some.inj (scoresG.symm.trans hg')
  obtain rfl := Option.some.inj (scoresTy.symm.trans ht')
  obtain ⟨xs, m, _, hx, hl, hn, hi⟩ := DataW.trod_array Tryd.underlying42 hd
  have hxs : xs.map (·.1) = [.lit (.int .i64 0), .lit (.int .i64 1), .lit (.int .i64 2), .lit (.int .i64 3), .lit (.int .i64 (-1)), .lit (.int .i64 (-2)), .lit (.int .i64 (-3)), .lit (.int .i64 0)] := by
    have := congrArg Prod.fst hx
    simp only [Rows.laid_loop_example_g00886_impl_resultScores, DataW.agg.injEq] at this
    exact this.symm
  intro d hd8
  have h1 := hi d hd8
  rw [cellsInt] at h1
  have h2 : (xs.map (·.1))[d]? = some (.lit (.int .i64 (scoI d))) := by rw [hxs]; exact sco_datum d hd8
  rw [List.getElem?_map, Option.map_eq_some_iff] at h2
  obtain ⟨y, hy, hy1⟩ := h2
  obtain ⟨a, c0, rfl, _⟩ := DataW.trod_int Tryd.underlying3 (h1.trans hy)
  simp only [DataW.lit.injEq, Lit.int.injEq, true_and] at hy1
  subst hy1
  have g0 : cs[d]? = some (.int .i64 (scoI d)) := by
    have := congrArg (·[0]?) c0
    simpa [List.getElem?_take, List.getElem?_drop] using this
  exact (World.var?_cell scoresG hvar _).trans g0

structure TbH (w : World) : Prop where
  t : TbSp w
  shift : SpanAt w 1 (-10) 10
structure TbM (w : World) : Prop where
  t : TbSp w
  sco : ScoAt w
structure TbR (w : World) : Prop where
  result : SpanAt w 2 0 7
  sco : ScoAt w
theorem TbH.keep {w w' : World} (h : TbH w) (k : Kp w w') : TbH w' := ⟨h.t.keep k, h.shift.keep k⟩
theorem TbM.keep {w w' : World} (h : TbM w) (k : Kp w w') : TbM w' := ⟨h.t.keep k, h.sco.keep k⟩
theorem TbR.keep {w w' : World} (h : TbR w) (k : Kp w w') : TbR w' := ⟨h.result.keep k, h.sco.keep k⟩

theorem t4_of {W : World} (h : laidMetH Tryd.prog [("loop.example/g00886/impl.columnsSpan", Rows.laid_loop_example_g00886_impl_columnsSpan), ("loop.example/g00886/impl.oddsSpan", Rows.laid_loop_example_g00886_impl_oddsSpan), ("loop.example/g00886/impl.tableDiceSpan", Rows.laid_loop_example_g00886_impl_tableDiceSpan), ("loop.example/g00886/impl.resultSpan", Rows.laid_loop_example_g00886_impl_resultSpan)] W) : TbSp W := by
  have h' : laidMet Tryd.prog [("loop.example/g00886/impl.columnsSpan", Rows.laid_loop_example_g00886_impl_columnsSpan), ("loop.example/g00886/impl.oddsSpan", Rows.laid_loop_example_g00886_impl_oddsSpan), ("loop.example/g00886/impl.tableDiceSpan", Rows.laid_loop_example_g00886_impl_tableDiceSpan), ("loop.example/g00886/impl.resultSpan", Rows.laid_loop_example_g00886_impl_resultSpan)] W := h
  obtain ⟨ps, hl, _⟩ := h'
  exact ⟨span_of columnsG4 columnsTy4 (laid_one hl (.head _)), span_of oddsG4 oddsTy4 (laid_one hl (.tail _ (.head _))), span_of diceG4 diceTy4 (laid_one hl (.tail _ (.tail _ (.head _)))), span_of resultG4 resultTy4 (laid_one hl (.tail _ (.tail _ (.tail _ (.head _)))))⟩
theorem t5s_of {W : World} (h : laidMetH Tryd.prog [("loop.example/g00886/impl.columnsSpan", Rows.laid_loop_example_g00886_impl_columnsSpan), ("loop.example/g00886/impl.oddsSpan", Rows.laid_loop_example_g00886_impl_oddsSpan), ("loop.example/g00886/impl.tableDiceSpan", Rows.laid_loop_example_g00886_impl_tableDiceSpan), ("loop.example/g00886/impl.resultSpan", Rows.laid_loop_example_g00886_impl_resultSpan), ("loop.example/g00886/impl.columnShiftSpan", Rows.laid_loop_example_g00886_impl_columnShiftSpan)] W) : TbH W := by
  have h' : laidMet Tryd.prog [("loop.example/g00886/impl.columnsSpan", Rows.laid_loop_example_g00886_impl_columnsSpan), ("loop.example/g00886/impl.oddsSpan", Rows.laid_loop_example_g00886_impl_oddsSpan), ("loop.example/g00886/impl.tableDiceSpan", Rows.laid_loop_example_g00886_impl_tableDiceSpan), ("loop.example/g00886/impl.resultSpan", Rows.laid_loop_example_g00886_impl_resultSpan), ("loop.example/g00886/impl.columnShiftSpan", Rows.laid_loop_example_g00886_impl_columnShiftSpan)] W := h
  obtain ⟨ps, hl, _⟩ := h'
  exact ⟨⟨span_of columnsG4 columnsTy4 (laid_one hl (.head _)), span_of oddsG4 oddsTy4 (laid_one hl (.tail _ (.head _))), span_of diceG4 diceTy4 (laid_one hl (.tail _ (.tail _ (.head _)))), span_of resultG4 resultTy4 (laid_one hl (.tail _ (.tail _ (.tail _ (.head _)))))⟩, span_of cshiftG4 cshiftTy4 (laid_one hl (.tail _ (.tail _ (.tail _ (.tail _ (.head _))))))⟩
theorem t2_of {W : World} (h : laidMetH Tryd.prog [("loop.example/g00886/impl.resultScores", Rows.laid_loop_example_g00886_impl_resultScores), ("loop.example/g00886/impl.resultSpan", Rows.laid_loop_example_g00886_impl_resultSpan)] W) : TbR W := by
  have h' : laidMet Tryd.prog [("loop.example/g00886/impl.resultScores", Rows.laid_loop_example_g00886_impl_resultScores), ("loop.example/g00886/impl.resultSpan", Rows.laid_loop_example_g00886_impl_resultSpan)] W := h
  obtain ⟨ps, hl, _⟩ := h'
  exact ⟨span_of resultG4 resultTy4 (laid_one hl (.tail _ (.head _))), scores_of (laid_one hl (.head _))⟩
theorem t5m_of {W : World} (h : laidMetH Tryd.prog [("loop.example/g00886/impl.resultScores", Rows.laid_loop_example_g00886_impl_resultScores), ("loop.example/g00886/impl.columnsSpan", Rows.laid_loop_example_g00886_impl_columnsSpan), ("loop.example/g00886/impl.oddsSpan", Rows.laid_loop_example_g00886_impl_oddsSpan), ("loop.example/g00886/impl.tableDiceSpan", Rows.laid_loop_example_g00886_impl_tableDiceSpan), ("loop.example/g00886/impl.resultSpan", Rows.laid_loop_example_g00886_impl_resultSpan)] W) : TbM W := by
  have h' : laidMet Tryd.prog [("loop.example/g00886/impl.resultScores", Rows.laid_loop_example_g00886_impl_resultScores), ("loop.example/g00886/impl.columnsSpan", Rows.laid_loop_example_g00886_impl_columnsSpan), ("loop.example/g00886/impl.oddsSpan", Rows.laid_loop_example_g00886_impl_oddsSpan), ("loop.example/g00886/impl.tableDiceSpan", Rows.laid_loop_example_g00886_impl_tableDiceSpan), ("loop.example/g00886/impl.resultSpan", Rows.laid_loop_example_g00886_impl_resultSpan)] W := h
  obtain ⟨ps, hl, _⟩ := h'
  exact ⟨⟨span_of columnsG4 columnsTy4 (laid_one hl (.tail _ (.head _))), span_of oddsG4 oddsTy4 (laid_one hl (.tail _ (.tail _ (.head _)))), span_of diceG4 diceTy4 (laid_one hl (.tail _ (.tail _ (.tail _ (.head _))))), span_of resultG4 resultTy4 (laid_one hl (.tail _ (.tail _ (.tail _ (.tail _ (.head _))))))⟩, scores_of (laid_one hl (.head _))⟩

theorem lenv2 {α : Type} {l : List α} (h : l.length = 2) : ∃ x0 x1, l = [x0, x1] := by
  match l, h with
  | [x0, x1], _ => exact ⟨_, _, rfl⟩
theorem lenv4 {α : Type} {l : List α} (h : l.length = 4) : ∃ x0 x1 x2 x3, l = [x0, x1, x2, x3] := by
  match l, h with
  | [x0, x1, x2, x3], _ => exact ⟨_, _, _, _, rfl⟩
theorem lenv5 {α : Type} {l : List α} (h : l.length = 5) : ∃ x0 x1 x2 x3 x4, l = [x0, x1, x2, x3, x4] := by
  match l, h with
  | [x0, x1, x2, x3, x4], _ => exact ⟨_, _, _, _, _, rfl⟩
theorem lenv6 {α : Type} {l : List α} (h : l.length = 6) : ∃ x0 x1 x2 x3 x4 x5, l = [x0, x1, x2, x3, x4, x5] := by
  match l, h with
  | [x0, x1, x2, x3, x4, x5], _ => exact ⟨_, _, _, _, _, _, rfl⟩

end Go.Proofs.YtjpfmckoodalnaaDoor
