/-
  What the rows' lists say of the ranges and of the table of directions, cell by cell; a world for the witness in which they lie.
-/
import Derived.Test.YtkkcnofplddbmaaDoorTab
import Derived.Test.YtkkcnofplddbmaaDoorSpan
namespace Go.Proofs.YtkkcnofplddbmaaDoor
open Go.ChangeShapes Go.WideShapes Go.ChangeAt Go.RowKit Go.Joins

theorem laid_one {P : Program} {w : World} : ∀ {l : List (String × DataW Unit)} {ps : List MemPlace} {n : String} {d : DataW Unit}, DataW.LaidVars P w l ps → (n, d) ∈ l →
    ∃ g t cs fuel p, P.globalNamed n = some g ∧ (P.globals[g]?).map (·.type) = some t ∧ w.var? P n = some cs ∧ DataW.trod (fun _ => ()) P w 0 (fun _ => true) false fuel t cs.toList = some (d, p)
  | [], _, _, _, _, h => by cases h
  | (m, e) :: r, ps, n, d, hl, h => by
    obtain ⟨g, t, cs, fuel, p, q, h1, h2, h3, h4, hr, _⟩ := hl
    rcases List.mem_cons.1 h with he | he
    · obtain ⟨rfl, rfl⟩ := Prod.mk.injEq .. |>.mp he
      exact ⟨g, t, cs, fuel, p, h1, h2, h3, h4⟩
    · exact laid_one hr he

theorem spanFields : ∃ f0 f1 : Field, Tryd.prog.underlying 75 = some (.struct #[f0, f1]) ∧ f0.type = 3 ∧ f1.type = 3 ∧ f0.offset = 0 ∧ f1.offset = 1 :=
  ⟨_, _, Tryd.underlying75, rfl, rfl, rfl, rfl⟩
theorem span_of {W : World} {n : String} {g : Nat} {a b : Int} (hG : Tryd.prog.globalNamed n = some g) (hT : (Tryd.prog.globals[g]?).map (·.type) = some 75)
    (h : ∃ g t cs fuel p, Tryd.prog.globalNamed n = some g ∧ (Tryd.prog.globals[g]?).map (·.type) = some t ∧ W.var? Tryd.prog n = some cs ∧ DataW.trod (fun _ => ()) Tryd.prog W 0 (fun _ => true) false fuel t cs.toList = some (.agg [.lit (.int .i64 a), .lit (.int .i64 b)], p)) : SpanAt W g a b := by
  obtain ⟨g', t', cs, fuel, p, hg', ht', hvar, hd⟩ := h
  obtain rfl := Option.some.inj (hG.symm.trans hg')
  obtain rfl := Option.some.inj (hT.symm.trans ht')
  obtain ⟨f0, f1, hu, e0, e1, o0, o1⟩ := spanFields
  obtain ⟨y0, y1, n', hx, hlen, u0, u1⟩ := trod_struct2 hu hd
  rw [e0, o0, cellsInt] at u0
  rw [e1, o1, cellsInt] at u1
  obtain ⟨x, c0, rfl, _⟩ := DataW.trod_int Tryd.underlying3 u0
  obtain ⟨y, c1, rfl, _⟩ := DataW.trod_int Tryd.underlying3 u1
  simp only [Prod.mk.injEq, DataW.agg.injEq, List.cons.injEq, DataW.lit.injEq, Lit.int.injEq, true_and, and_true] at hx
  obtain ⟨⟨rfl, rfl⟩, _⟩ := hx
  have g0 : cs[0]? = some (.int .i64 a) := by
    have := congrArg (·[0]?) c0
    simpa [List.getElem?_take, List.getElem?_drop] using this
  have g1 : cs[1]? = some (.int .i64 b) := by
    have := congrArg (·[0]?) c1
    simpa [List.getElem?_take, List.getElem?_drop] using this
  exact ⟨(World.var?_cell hG hvar _).trans g0, (World.var?_cell hG hvar _).trans g1⟩

theorem terrainsG : Tryd.prog.globalNamed "loop.example/g00886/impl.terrainsSpan" = some 0 := by kernel_rfl
theorem terrainsTy : (Tryd.prog.globals[0]?).map (·.type) = some 75 := by kernel_rfl
theorem costG : Tryd.prog.globalNamed "loop.example/g00886/impl.costSpan" = some 7 := by kernel_rfl
theorem costTy : (Tryd.prog.globals[7]?).map (·.type) = some 75 := by kernel_rfl
theorem shiftG : Tryd.prog.globalNamed "loop.example/g00886/impl.shiftSpan" = some 8 := by kernel_rfl
theorem shiftTy : (Tryd.prog.globals[8]?).map (·.type) = some 75 := by kernel_rfl
theorem heightG : Tryd.prog.globalNamed "loop.example/g00886/impl.heightSpan" = some 9 := by kernel_rfl
theorem heightTy : (Tryd.prog.globals[9]?).map (·.type) = some 75 := by kernel_rfl
theorem kindsG : Tryd.prog.globalNamed "loop.example/g00886/impl.kindsSpan" = some 1 := by kernel_rfl
theorem kindsTy : (Tryd.prog.globals[1]?).map (·.type) = some 75 := by kernel_rfl
theorem strengthG : Tryd.prog.globalNamed "loop.example/g00886/impl.strengthSpan" = some 10 := by kernel_rfl
theorem strengthTy : (Tryd.prog.globals[10]?).map (·.type) = some 75 := by kernel_rfl
theorem movesG : Tryd.prog.globalNamed "loop.example/g00886/impl.movesSpan" = some 11 := by kernel_rfl
theorem movesTy : (Tryd.prog.globals[11]?).map (·.type) = some 75 := by kernel_rfl
theorem stepsG : Tryd.prog.globalNamed "loop.example/g00886/impl.stepsSpan" = some 12 := by kernel_rfl
theorem stepsTy : (Tryd.prog.globals[12]?).map (·.type) = some 75 := by kernel_rfl
theorem viewG : Tryd.prog.globalNamed "loop.example/g00886/impl.viewSpan" = some 13 := by kernel_rfl
theorem viewTy : (Tryd.prog.globals[13]?).map (·.type) = some 75 := by kernel_rfl
theorem stackG : Tryd.prog.globalNamed "loop.example/g00886/impl.stackSpan" = some 2 := by kernel_rfl
theorem stackTy : (Tryd.prog.globals[2]?).map (·.type) = some 75 := by kernel_rfl
theorem riverG : Tryd.prog.globalNamed "loop.example/g00886/impl.riverSpan" = some 3 := by kernel_rfl
theorem riverTy : (Tryd.prog.globals[3]?).map (·.type) = some 75 := by kernel_rfl
theorem roadG : Tryd.prog.globalNamed "loop.example/g00886/impl.roadSpan" = some 4 := by kernel_rfl
theorem roadTy : (Tryd.prog.globals[4]?).map (·.type) = some 75 := by kernel_rfl
theorem supplyG : Tryd.prog.globalNamed "loop.example/g00886/impl.supplySpan" = some 5 := by kernel_rfl
theorem supplyTy : (Tryd.prog.globals[5]?).map (·.type) = some 75 := by kernel_rfl
theorem turnsG : Tryd.prog.globalNamed "loop.example/g00886/impl.turnsSpan" = some 6 := by kernel_rfl
theorem turnsTy : (Tryd.prog.globals[6]?).map (·.type) = some 75 := by kernel_rfl

theorem spans14 {W : World} (h : laidMetH Tryd.prog [("loop.example/g00886/impl.terrainsSpan", Rows.laid_loop_example_g00886_impl_terrainsSpan), ("loop.example/g00886/impl.costSpan", Rows.laid_loop_example_g00886_impl_costSpan), ("loop.example/g00886/impl.shiftSpan", Rows.laid_loop_example_g00886_impl_shiftSpan), ("loop.example/g00886/impl.heightSpan", Rows.laid_loop_example_g00886_impl_heightSpan), ("loop.example/g00886/impl.kindsSpan", Rows.laid_loop_example_g00886_impl_kindsSpan), ("loop.example/g00886/impl.strengthSpan", Rows.laid_loop_example_g00886_impl_strengthSpan), ("loop.example/g00886/impl.movesSpan", Rows.laid_loop_example_g00886_impl_movesSpan), ("loop.example/g00886/impl.stepsSpan", Rows.laid_loop_example_g00886_impl_stepsSpan), ("loop.example/g00886/impl.viewSpan", Rows.laid_loop_example_g00886_impl_viewSpan), ("loop.example/g00886/impl.stackSpan", Rows.laid_loop_example_g00886_impl_stackSpan), ("loop.example/g00886/impl.riverSpan", Rows.laid_loop_example_g00886_impl_riverSpan), ("loop.example/g00886/impl.roadSpan", Rows.laid_loop_example_g00886_impl_roadSpan), ("loop.example/g00886/impl.supplySpan", Rows.laid_loop_example_g00886_impl_supplySpan), ("loop.example/g00886/impl.turnsSpan", Rows.laid_loop_example_g00886_impl_turnsSpan)] W) : Spans W := by
  have h' : laidMet Tryd.prog [("loop.example/g00886/impl.terrainsSpan", Rows.laid_loop_example_g00886_impl_terrainsSpan), ("loop.example/g00886/impl.costSpan", Rows.laid_loop_example_g00886_impl_costSpan), ("loop.example/g00886/impl.shiftSpan", Rows.laid_loop_example_g00886_impl_shiftSpan), ("loop.example/g00886/impl.heightSpan", Rows.laid_loop_example_g00886_impl_heightSpan), ("loop.example/g00886/impl.kindsSpan", Rows.laid_loop_example_g00886_impl_kindsSpan), ("loop.example/g00886/impl.strengthSpan", Rows.laid_loop_example_g00886_impl_strengthSpan), ("loop.example/g00886/impl.movesSpan", Rows.laid_loop_example_g00886_impl_movesSpan), ("loop.example/g00886/impl.stepsSpan", Rows.laid_loop_example_g00886_impl_stepsSpan), ("loop.example/g00886/impl.viewSpan", Rows.laid_loop_example_g00886_impl_viewSpan), ("loop.example/g00886/impl.stackSpan", Rows.laid_loop_example_g00886_impl_stackSpan), ("loop.example/g00886/impl.riverSpan", Rows.laid_loop_example_g00886_impl_riverSpan), ("loop.example/g00886/impl.roadSpan", Rows.laid_loop_example_g00886_impl_roadSpan), ("loop.example/g00886/impl.supplySpan", Rows.laid_loop_example_g00886_impl_supplySpan), ("loop.example/g00886/impl.turnsSpan", Rows.laid_loop_example_g00886_impl_turnsSpan)] W := h
  obtain ⟨ps, hl, _⟩ := h'
  exact ⟨span_of terrainsG terrainsTy (laid_one hl (.head _)), span_of costG costTy (laid_one hl (.tail _ (.head _))), span_of shiftG shiftTy (laid_one hl (.tail _ (.tail _ (.head _)))), span_of heightG heightTy (laid_one hl (.tail _ (.tail _ (.tail _ (.head _))))), span_of kindsG kindsTy (laid_one hl (.tail _ (.tail _ (.tail _ (.tail _ (.head _)))))), span_of strengthG strengthTy (laid_one hl (.tail _ (.tail _ (.tail _ (.tail _ (.tail _ (.head _))))))), span_of movesG movesTy (laid_one hl (.tail _ (.tail _ (.tail _ (.tail _ (.tail _ (.tail _ (.head _)))))))), span_of stepsG stepsTy (laid_one hl (.tail _ (.tail _ (.tail _ (.tail _ (.tail _ (.tail _ (.tail _ (.head _))))))))), span_of viewG viewTy (laid_one hl (.tail _ (.tail _ (.tail _ (.tail _ (.tail _ (.tail _ (.tail _ (.tail _ (.head _)))))))))), span_of stackG stackTy (laid_one hl (.tail _ (.tail _ (.tail _ (.tail _ (.tail _ (.tail _ (.tail _ (.tail _ (.tail _ (.head _))))))))))), span_of riverG riverTy (laid_one hl (.tail _ (.tail _ (.tail _ (.tail _ (.tail _ (.tail _ (.tail _ (.tail _ (.tail _ (.tail _ (.head _)))))))))))), span_of roadG roadTy (laid_one hl (.tail _ (.tail _ (.tail _ (.tail _ (.tail _ (.tail _ (.tail _ (.tail _ (.tail _ (.tail _ (.tail _ (.head _))))))))))))), span_of supplyG supplyTy (laid_one hl (.tail _ (.tail _ (.tail _ (.tail _ (.tail _ (.tail _ (.tail _ (.tail _ (.tail _ (.tail _ (.tail _ (.tail _ (.head _)))))))))))))), span_of turnsG turnsTy (laid_one hl (.tail _ (.tail _ (.tail _ (.tail _ (.tail _ (.tail _ (.tail _ (.tail _ (.tail _ (.tail _ (.tail _ (.tail _ (.tail _ (.head _)))))))))))))))⟩

theorem spans15 {W : World} (h : laidMetH Tryd.prog [("loop.example/g00886/impl.directionSteps", Rows.laid_loop_example_g00886_impl_directionSteps), ("loop.example/g00886/impl.terrainsSpan", Rows.laid_loop_example_g00886_impl_terrainsSpan), ("loop.example/g00886/impl.costSpan", Rows.laid_loop_example_g00886_impl_costSpan), ("loop.example/g00886/impl.shiftSpan", Rows.laid_loop_example_g00886_impl_shiftSpan), ("loop.example/g00886/impl.heightSpan", Rows.laid_loop_example_g00886_impl_heightSpan), ("loop.example/g00886/impl.kindsSpan", Rows.laid_loop_example_g00886_impl_kindsSpan), ("loop.example/g00886/impl.strengthSpan", Rows.laid_loop_example_g00886_impl_strengthSpan), ("loop.example/g00886/impl.movesSpan", Rows.laid_loop_example_g00886_impl_movesSpan), ("loop.example/g00886/impl.stepsSpan", Rows.laid_loop_example_g00886_impl_stepsSpan), ("loop.example/g00886/impl.viewSpan", Rows.laid_loop_example_g00886_impl_viewSpan), ("loop.example/g00886/impl.stackSpan", Rows.laid_loop_example_g00886_impl_stackSpan), ("loop.example/g00886/impl.riverSpan", Rows.laid_loop_example_g00886_impl_riverSpan), ("loop.example/g00886/impl.roadSpan", Rows.laid_loop_example_g00886_impl_roadSpan), ("loop.example/g00886/impl.supplySpan", Rows.laid_loop_example_g00886_impl_supplySpan), ("loop.example/g00886/impl.turnsSpan", Rows.laid_loop_example_g00886_impl_turnsSpan)] W) : Spans W := by
  have h' : laidMet Tryd.prog [("loop.example/g00886/impl.directionSteps", Rows.laid_loop_example_g00886_impl_directionSteps), ("loop.example/g00886/impl.terrainsSpan", Rows.laid_loop_example_g00886_impl_terrainsSpan), ("loop.example/g00886/impl.costSpan", Rows.laid_loop_example_g00886_impl_costSpan), ("loop.example/g00886/impl.shiftSpan", Rows.laid_loop_example_g00886_impl_shiftSpan), ("loop.example/g00886/impl.heightSpan", Rows.laid_loop_example_g00886_impl_heightSpan), ("loop.example/g00886/impl.kindsSpan", Rows.laid_loop_example_g00886_impl_kindsSpan), ("loop.example/g00886/impl.strengthSpan", Rows.laid_loop_example_g00886_impl_strengthSpan), ("loop.example/g00886/impl.movesSpan", Rows.laid_loop_example_g00886_impl_movesSpan), ("loop.example/g00886/impl.stepsSpan", Rows.laid_loop_example_g00886_impl_stepsSpan), ("loop.example/g00886/impl.viewSpan", Rows.laid_loop_example_g00886_impl_viewSpan), ("loop.example/g00886/impl.stackSpan", Rows.laid_loop_example_g00886_impl_stackSpan), ("loop.example/g00886/impl.riverSpan", Rows.laid_loop_example_g00886_impl_riverSpan), ("loop.example/g00886/impl.roadSpan", Rows.laid_loop_example_g00886_impl_roadSpan), ("loop.example/g00886/impl.supplySpan", Rows.laid_loop_example_g00886_impl_supplySpan), ("loop.example/g00886/impl.turnsSpan", Rows.laid_loop_example_g00886_impl_turnsSpan)] W := h
  obtain ⟨ps, hl, _⟩ := h'
  exact ⟨span_of terrainsG terrainsTy (laid_one hl (.tail _ (.head _))), span_of costG costTy (laid_one hl (.tail _ (.tail _ (.head _)))), span_of shiftG shiftTy (laid_one hl (.tail _ (.tail _ (.tail _ (.head _))))), span_of heightG heightTy (laid_one hl (.tail _ (.tail _ (.tail _ (.tail _ (.head _)))))), span_of kindsG kindsTy (laid_one hl (.tail _ (.tail _ (.tail _ (.tail _ (.tail _ (.head _))))))), span_of strengthG strengthTy (laid_one hl (.tail _ (.tail _ (.tail _ (.tail _ (.tail _ (.tail _ (.head _)))))))), span_of movesG movesTy (laid_one hl (.tail _ (.tail _ (.tail _ (.tail _ (.tail _ (.tail _ (.tail _ (.head _))))))))), span_of stepsG stepsTy (laid_one hl (.tail _ (.tail _ (.tail _ (.tail _ (.tail _ (.tail _ (.tail _ (.tail _ (.head _)))))))))), span_of viewG viewTy (laid_one hl (.tail _ (.tail _ (.tail _ (.tail _ (.tail _ (.tail _ (.tail _ (.tail _ (.tail _ (.head _))))))))))), span_of stackG stackTy (laid_one hl (.tail _ (.tail _ (.tail _ (.tail _ (.tail _ (.tail _ (.tail _ (.tail _ (.tail _ (.tail _ (.head _)))))))))))), span_of riverG riverTy (laid_one hl (.tail _ (.tail _ (.tail _ (.tail _ (.tail _ (.tail _ (.tail _ (.tail _ (.tail _ (.tail _ (.tail _ (.head _))))))))))))), span_of roadG roadTy (laid_one hl (.tail _ (.tail _ (.tail _ (.tail _ (.tail _ (.tail _ (.tail _ (.tail _ (.tail _ (.tail _ (.tail _ (.tail _ (.head _)))))))))))))), span_of supplyG supplyTy (laid_one hl (.tail _ (.tail _ (.tail _ (.tail _ (.tail _ (.tail _ (.tail _ (.tail _ (.tail _ (.tail _ (.tail _ (.tail _ (.tail _ (.head _))))))))))))))), span_of turnsG turnsTy (laid_one hl (.tail _ (.tail _ (.tail _ (.tail _ (.tail _ (.tail _ (.tail _ (.tail _ (.tail _ (.tail _ (.tail _ (.tail _ (.tail _ (.tail _ (.head _))))))))))))))))⟩

theorem tab15 {W : World} (h : laidMetH Tryd.prog [("loop.example/g00886/impl.directionSteps", Rows.laid_loop_example_g00886_impl_directionSteps), ("loop.example/g00886/impl.terrainsSpan", Rows.laid_loop_example_g00886_impl_terrainsSpan), ("loop.example/g00886/impl.costSpan", Rows.laid_loop_example_g00886_impl_costSpan), ("loop.example/g00886/impl.shiftSpan", Rows.laid_loop_example_g00886_impl_shiftSpan), ("loop.example/g00886/impl.heightSpan", Rows.laid_loop_example_g00886_impl_heightSpan), ("loop.example/g00886/impl.kindsSpan", Rows.laid_loop_example_g00886_impl_kindsSpan), ("loop.example/g00886/impl.strengthSpan", Rows.laid_loop_example_g00886_impl_strengthSpan), ("loop.example/g00886/impl.movesSpan", Rows.laid_loop_example_g00886_impl_movesSpan), ("loop.example/g00886/impl.stepsSpan", Rows.laid_loop_example_g00886_impl_stepsSpan), ("loop.example/g00886/impl.viewSpan", Rows.laid_loop_example_g00886_impl_viewSpan), ("loop.example/g00886/impl.stackSpan", Rows.laid_loop_example_g00886_impl_stackSpan), ("loop.example/g00886/impl.riverSpan", Rows.laid_loop_example_g00886_impl_riverSpan), ("loop.example/g00886/impl.roadSpan", Rows.laid_loop_example_g00886_impl_roadSpan), ("loop.example/g00886/impl.supplySpan", Rows.laid_loop_example_g00886_impl_supplySpan), ("loop.example/g00886/impl.turnsSpan", Rows.laid_loop_example_g00886_impl_turnsSpan)] W) : Tab W := by
  have h' : laidMet Tryd.prog [("loop.example/g00886/impl.directionSteps", Rows.laid_loop_example_g00886_impl_directionSteps), ("loop.example/g00886/impl.terrainsSpan", Rows.laid_loop_example_g00886_impl_terrainsSpan), ("loop.example/g00886/impl.costSpan", Rows.laid_loop_example_g00886_impl_costSpan), ("loop.example/g00886/impl.shiftSpan", Rows.laid_loop_example_g00886_impl_shiftSpan), ("loop.example/g00886/impl.heightSpan", Rows.laid_loop_example_g00886_impl_heightSpan), ("loop.example/g00886/impl.kindsSpan", Rows.laid_loop_example_g00886_impl_kindsSpan), ("loop.example/g00886/impl.strengthSpan", Rows.laid_loop_example_g00886_impl_strengthSpan), ("loop.example/g00886/impl.movesSpan", Rows.laid_loop_example_g00886_impl_movesSpan), ("loop.example/g00886/impl.stepsSpan", Rows.laid_loop_example_g00886_impl_stepsSpan), ("loop.example/g00886/impl.viewSpan", Rows.laid_loop_example_g00886_impl_viewSpan), ("loop.example/g00886/impl.stackSpan", Rows.laid_loop_example_g00886_impl_stackSpan), ("loop.example/g00886/impl.riverSpan", Rows.laid_loop_example_g00886_impl_riverSpan), ("loop.example/g00886/impl.roadSpan", Rows.laid_loop_example_g00886_impl_roadSpan), ("loop.example/g00886/impl.supplySpan", Rows.laid_loop_example_g00886_impl_supplySpan), ("loop.example/g00886/impl.turnsSpan", Rows.laid_loop_example_g00886_impl_turnsSpan)] W := h
  obtain ⟨ps, ⟨g, t, cs, fuel, p, q, h1, h2, h3, h4, _, _⟩, _⟩ := h'
  exact tab_of_laid1 ⟨g, t, cs, fuel, p, h1, h2, h3, h4⟩

/-- The same world, a variable's cells laid. -/
noncomputable def setVar (w : World) (g : Nat) (xs : Array Value) : World :=
  { w with heap := w.heap.modify g fun
      | .cells _ t frozen => .cells xs t frozen
      | o => o }
noncomputable def laidWorldS (os : Os) : World :=
  setVar (setVar (setVar (setVar (setVar (setVar (setVar (setVar (setVar (setVar (setVar (setVar (setVar (setVar (laidWorld os) 0 #[.int .i64 1, .int .i64 6]) 7 #[.int .i64 0, .int .i64 9]) 8 #[.int .i64 (-3), .int .i64 3]) 9 #[.int .i64 0, .int .i64 3]) 1 #[.int .i64 1, .int .i64 4]) 10 #[.int .i64 1, .int .i64 9]) 11 #[.int .i64 0, .int .i64 9]) 12 #[.int .i64 1, .int .i64 4]) 13 #[.int .i64 0, .int .i64 4]) 2 #[.int .i64 1, .int .i64 4]) 3 #[.int .i64 0, .int .i64 9]) 4 #[.int .i64 1, .int .i64 9]) 5 #[.int .i64 0, .int .i64 20]) 6 #[.int .i64 1, .int .i64 30]

theorem trodVars_len {H : Type} {enc : TypeId × Value → H} {P : Program} {w : World} {sp : Nat → Bool} : ∀ {ns : List String} {gs : List (DataW H)} {ps : List MemPlace}, DataW.TrodVars enc P w sp ns gs ps → gs.length = ns.length
  | [], [], _, _ => rfl
  | n :: ns, d :: ds, _, h => by
    obtain ⟨_, _, _, _, _, _, _, _, _, _, h, _⟩ := h
    simp [trodVars_len h]
  | [], _ :: _, _, h => h.elim
  | _ :: _, [], _, h => h.elim
theorem len14 {α : Type} {l : List α} (h : l.length = 14) : ∃ x0 x1 x2 x3 x4 x5 x6 x7 x8 x9 x10 x11 x12 x13, l = [x0, x1, x2, x3, x4, x5, x6, x7, x8, x9, x10, x11, x12, x13] := by
  match l, h with
  | [x0, x1, x2, x3, x4, x5, x6, x7, x8, x9, x10, x11, x12, x13], _ => exact ⟨_, _, _, _, _, _, _, _, _, _, _, _, _, _, rfl⟩
theorem len15 {α : Type} {l : List α} (h : l.length = 15) : ∃ x0 x1 x2 x3 x4 x5 x6 x7 x8 x9 x10 x11 x12 x13 x14, l = [x0, x1, x2, x3, x4, x5, x6, x7, x8, x9, x10, x11, x12, x13, x14] := by
  match l, h with
  | [x0, x1, x2, x3, x4, x5, x6, x7, x8, x9, x10, x11, x12, x13, x14], _ => exact ⟨_, _, _, _, _, _, _, _, _, _, _, _, _, _, _, rfl⟩

end Go.Proofs.YtkkcnofplddbmaaDoor
