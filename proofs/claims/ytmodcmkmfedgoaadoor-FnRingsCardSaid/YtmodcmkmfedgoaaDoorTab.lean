/-
  What the row's list says of the table of directions, cell by cell; and a world for the witness in which the table lies.
-/
import Derived.Test.YtmodcmkmfedgoaaDoorCards
import Derived.Test.YtmodcmkmfedgoaaDoorTie
import Derived.Test.YtmodcmkmfedgoaaDoorLaw
import Derived.Test.YtmodcmkmfedgoaaDoorTabV
import Derived.Test.YtmodcmkmfedgoaaDoorDir
import Derived.Deep.DeepHandedRow
import Derived.Lib.LaidTab
import Derived.FnData
namespace Go.Proofs.YtmodcmkmfedgoaaDoor
open Go.ChangeShapes Go.WideShapes Go.ChangeAt Go.RowKit Go.Joins

abbrev tabName : String := "loop.example/g00886/impl.directionSteps"
theorem tabG : Tryd.prog.globalNamed tabName = some 0 := by kernel_rfl
theorem tabT : (Tryd.prog.globals[0]?).map (·.type) = some 52 := by kernel_rfl
theorem cellsOff : Tryd.prog.cellsOf 51 = 2 := by kernel_rfl
theorem offFields : ∃ f0 f1 : Field, Tryd.prog.underlying 51 = some (.struct #[f0, f1]) ∧ f0.type = 3 ∧ f1.type = 3 ∧ f0.offset = 0 ∧ f1.offset = 1 :=
  ⟨_, _, Tryd.underlying51, rfl, rfl, rfl, rfl⟩

theorem tab_datum {H : Type} (d : Nat) (h : d < 6) :
    ([.agg [.lit (.int .i64 1), .lit (.int .i64 0)], .agg [.lit (.int .i64 1), .lit (.int .i64 (-1))], .agg [.lit (.int .i64 0), .lit (.int .i64 (-1))], .agg [.lit (.int .i64 (-1)), .lit (.int .i64 0)], .agg [.lit (.int .i64 (-1)), .lit (.int .i64 1)], .agg [.lit (.int .i64 0), .lit (.int .i64 1)]] : List (DataW H))[d]? =
      some (.agg [.lit (.int .i64 (dirQ d)), .lit (.int .i64 (dirR d))]) := by
  match d, h with
  | 0, _ => rfl
  | 1, _ => rfl
  | 2, _ => rfl
  | 3, _ => rfl
  | 4, _ => rfl
  | 5, _ => rfl

theorem tab_of_laid1 {W : World} (h : ∃ g t cs fuel p, Tryd.prog.globalNamed tabName = some g ∧ (Tryd.prog.globals[g]?).map (·.type) = some t ∧ W.var? Tryd.prog tabName = some cs ∧ DataW.trod (fun _ => ()) Tryd.prog W 0 (fun _ => true) false fuel t cs.toList = some (Rows.laid_loop_example_g00886_impl_directionSteps, p)) : Tab W := by
  obtain ⟨g', t', cs, fuel, p, hg', ht', hvar, hd⟩ := h
  obtain rfl := Option.some.inj (tabG.symm.trans hg')
  obtain rfl := Option.some.inj (tabT.symm.trans ht')
  obtain ⟨xs, m, _, hx, hl, hn, hi⟩ := DataW.trod_array Tryd.underlying52 hd
  have hxs : xs.map (·.1) = [.agg [.lit (.int .i64 1), .lit (.int .i64 0)], .agg [.lit (.int .i64 1), .lit (.int .i64 (-1))], .agg [.lit (.int .i64 0), .lit (.int .i64 (-1))], .agg [.lit (.int .i64 (-1)), .lit (.int .i64 0)], .agg [.lit (.int .i64 (-1)), .lit (.int .i64 1)], .agg [.lit (.int .i64 0), .lit (.int .i64 1)]] := by
    have := congrArg Prod.fst hx
    simp only [Rows.laid_loop_example_g00886_impl_directionSteps, DataW.agg.injEq] at this
    exact this.symm
  intro d hd6
  have h1 := hi d hd6
  rw [cellsOff] at h1
  have h2 : (xs.map (·.1))[d]? = some (.agg [.lit (.int .i64 (dirQ d)), .lit (.int .i64 (dirR d))]) := by rw [hxs]; exact tab_datum d hd6
  rw [List.getElem?_map, Option.map_eq_some_iff] at h2
  obtain ⟨y, hy, hy1⟩ := h2
  obtain ⟨f0, f1, hu, e0, e1, o0, o1⟩ := offFields
  obtain ⟨y0, y1, n, rfl, hlen, u0, u1⟩ := trod_struct2 hu (h1.trans hy)
  rw [e0, o0, cellsInt] at u0
  rw [e1, o1, cellsInt] at u1
  obtain ⟨a, c0, rfl, _⟩ := DataW.trod_int Tryd.underlying3 u0
  obtain ⟨b, c1, rfl, _⟩ := DataW.trod_int Tryd.underlying3 u1
  simp only [DataW.agg.injEq, List.cons.injEq, DataW.lit.injEq, Lit.int.injEq, true_and, and_true] at hy1
  obtain ⟨rfl, rfl⟩ := hy1
  have g0 : cs[d * 2]? = some (.int .i64 (dirQ d)) := by
    have := congrArg (·[0]?) c0
    simpa [List.getElem?_take, List.getElem?_drop] using this
  have g1 : cs[d * 2 + 1]? = some (.int .i64 (dirR d)) := by
    have := congrArg (·[0]?) c1
    simpa [List.getElem?_take, List.getElem?_drop] using this
  exact ⟨(World.var?_cell tabG hvar _).trans g0, (World.var?_cell tabG hvar _).trans g1⟩
theorem tab_of_laid {W : World} (h : laidMetH Tryd.prog [(tabName, Rows.laid_loop_example_g00886_impl_directionSteps)] W) : Tab W := by
  have h' : laidMet Tryd.prog [(tabName, Rows.laid_loop_example_g00886_impl_directionSteps)] W := h
  obtain ⟨ps, ⟨g', t', cs, fuel, p, q, hg', ht', hvar, hd, _, _⟩, _⟩ := h'
  exact tab_of_laid1 ⟨g', t', cs, fuel, p, hg', ht', hvar, hd⟩

/-- A world for the witness: the settled one, the table holding what its text lays. -/
noncomputable def laidWorld (os : Os) : World :=
  { World.holding Tryd.prog os ⟨#[], #[], []⟩ with heap := (World.holding Tryd.prog os ⟨#[], #[], []⟩).heap.modify 0 fun
      | .cells _ t frozen => .cells #[.int .i64 1, .int .i64 0, .int .i64 1, .int .i64 (-1), .int .i64 0, .int .i64 (-1), .int .i64 (-1), .int .i64 0, .int .i64 (-1), .int .i64 1, .int .i64 0, .int .i64 1] t frozen
      | o => o }
end Go.Proofs.YtmodcmkmfedgoaaDoor
