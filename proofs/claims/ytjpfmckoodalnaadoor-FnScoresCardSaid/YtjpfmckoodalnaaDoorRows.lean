/-
  NARROWER THAN 'FOR EVERY INPUT', by the rows' own cells (each row's printed sentence says how): FnScores: laid.
  DERIVED. THE GIVEN ROWS OF THIS SEAT. 1 by the template 'for every input the law returns true; each argument reads behind the call as it read before'; 0 by the template 'total and deterministic' (their statements: YtjpfmckoodalnaaDoorTotals.lean).
  GIVEN WITH THE SEED: the statements are not yours to turn. If you find one false, say at which input.
  Laid BY PROGRAM, IN A SANDBOX (cutbox-rows.mjs): the forced cells as the released guide's own fill.sh prints them over the translation 8918faf4b8a4ee87… (all of the seat's roots in one cut). By AI agents, Wed Nov 11 2026. No macro, syntax, notation, axiom, sorry.
-/
import Derived.Test.YtjpfmckoodalnaaDoorChecked
import GoSem.Claim
import GoSem.ClaimJoined
import GoSem.ClaimMapViews
import Derived.JoinedTies
import Derived.KernelRfl
namespace Go.Proofs.YtjpfmckoodalnaaDoor
/- THE CELL 'sum', in the pinned program and in every row, IS THE sha256 OF THE DUMP (.gsa) THAT YtjpfmckoodalnaaDoorProg.lean LOADS. Nothing in Lean hashes anything: it is a label: what it is worth is what the hold of that sum in a sandbox is worth. -/
noncomputable def Tryd.pinned : Pinned := { name := "ytjpfmckoodalnaadoor", sum := "8918faf4b8a4ee87748fa5b20d9f3426f8404bb145eeeb4f122317407d0aefd4", checked := Tryd.checked }
namespace Rows
def none {H : Type} : Left H := { results := [], args := [] }

/- WHAT THE LISTED PACKAGE-LEVEL VARIABLES READ AS WHEN THE CALL BEGINS. Each datum BY PROGRAM (the guide's laid-datum.mjs) off the statement by which the dump's own 'gosem.cut.vars' lays the variable. In a bare row this is a premise. The card (YtjpfmckoodalnaaDoorCards.lean) ties it to the program's text. -/
def laid_loop_example_g00886_impl_resultScores {H : Type} : DataW H := .agg [.lit (.int .i64 0), .lit (.int .i64 1), .lit (.int .i64 2), .lit (.int .i64 3), .lit (.int .i64 (-1)), .lit (.int .i64 (-2)), .lit (.int .i64 (-3)), .lit (.int .i64 0)]
def laid_loop_example_g00886_impl_columnsSpan {H : Type} : DataW H := .agg [.lit (.int .i64 1), .lit (.int .i64 8)]
def laid_loop_example_g00886_impl_oddsSpan {H : Type} : DataW H := .agg [.lit (.int .i64 1), .lit (.int .i64 20)]
def laid_loop_example_g00886_impl_tableDiceSpan {H : Type} : DataW H := .agg [.lit (.int .i64 1), .lit (.int .i64 2)]
def laid_loop_example_g00886_impl_resultSpan {H : Type} : DataW H := .agg [.lit (.int .i64 0), .lit (.int .i64 7)]
def laid_loop_example_g00886_impl_columnShiftSpan {H : Type} : DataW H := .agg [.lit (.int .i64 (-10)), .lit (.int .i64 10)]

/-- 'laws.FnScores': WHATEVER THE INPUT: true; the input reads as it did. -/
def fnScoresSpec : ChangeSpec := { name := "fnScores", vars := ["loop.example/g00886/impl.resultScores", "loop.example/g00886/impl.tableDiceSpan", "loop.example/g00886/impl.columnsSpan", "loop.example/g00886/impl.oddsSpan", "loop.example/g00886/impl.resultSpan", "loop.example/g00886/impl.columnShiftSpan"], fn := fun _ => fun
  | [d1, d2, g1, g2, g3, g4, g5, g6] => { results := [.lit (.bool true)], args := [d1, d2], vars := [g1, g2, g3, g4, g5, g6] }
  | _ => none }
def fnScoresRow : OpenClaim := { program := "ytjpfmckoodalnaadoor", sum := "8918faf4b8a4ee87748fa5b20d9f3426f8404bb145eeeb4f122317407d0aefd4", func := "loop.example/g00886/laws.FnScores", spec := "fnScores", named := ["loop.example/g00886/impl.resultScores", "loop.example/g00886/impl.tableDiceSpan", "loop.example/g00886/impl.columnsSpan", "loop.example/g00886/impl.oddsSpan", "loop.example/g00886/impl.resultSpan", "loop.example/g00886/impl.columnShiftSpan"], apart := false, laid := [("loop.example/g00886/impl.resultScores", laid_loop_example_g00886_impl_resultScores), ("loop.example/g00886/impl.columnsSpan", laid_loop_example_g00886_impl_columnsSpan), ("loop.example/g00886/impl.oddsSpan", laid_loop_example_g00886_impl_oddsSpan), ("loop.example/g00886/impl.tableDiceSpan", laid_loop_example_g00886_impl_tableDiceSpan), ("loop.example/g00886/impl.resultSpan", laid_loop_example_g00886_impl_resultSpan), ("loop.example/g00886/impl.columnShiftSpan", laid_loop_example_g00886_impl_columnShiftSpan)] }
def FnScoresSaid : Prop := fnScoresRow.holds Tryd.pinned (OpenSpec.ofChange fnScoresSpec)

/-- ITS FALSE NEIGHBOUR: 'it returns false'. Refute it at one input. -/
def fnScoresWrong : ChangeSpec := { name := "fnScores", vars := ["loop.example/g00886/impl.resultScores", "loop.example/g00886/impl.tableDiceSpan", "loop.example/g00886/impl.columnsSpan", "loop.example/g00886/impl.oddsSpan", "loop.example/g00886/impl.resultSpan", "loop.example/g00886/impl.columnShiftSpan"], fn := fun _ => fun
  | [d1, d2, g1, g2, g3, g4, g5, g6] => { results := [.lit (.bool false)], args := [d1, d2], vars := [g1, g2, g3, g4, g5, g6] }
  | _ => none }
def FnScoresWrongFalsely : Prop := fnScoresRow.holds Tryd.pinned (OpenSpec.ofChange fnScoresWrong)

/- THE SECOND FORM. 'bulk': how many values and letters a reading holds, each counted each time it is reached (what is shared counts as often as it is met; a slice's spare places count too). A statement '..UptoSaid' is the law's where the arguments, and the package variables that the reading takes, are together of bulk at most 1048576: NARROWER than '..Said'. Prove '..Said' where nothing that the law and all that it calls make is longer than what came in: it says more and counts as full. Else prove '..UptoSaid'. A law counts once. -/
mutual
def uptoBulk {H : Type} : DataW H → Nat
  | .lit (.string bytes) => bytes.length + 1
  | .lit _ => 1
  | .nil => 1
  | .ptr d => uptoBulk d + 1
  | .slice elems spare => uptoBulkAll elems + uptoBulkAll spare + 1
  | .agg parts => uptoBulkAll parts + 1
  | .iface _ d => uptoBulk d + 1
  | .map entries => uptoBulkEntries entries + 1
  | .held _ => 1
def uptoBulkAll {H : Type} : List (DataW H) → Nat
  | [] => 0
  | d :: r => uptoBulk d + uptoBulkAll r
def uptoBulkEntries {H : Type} : List (Lit × DataW H) → Nat
  | [] => 0
  | x :: r => uptoBulkEntry x + uptoBulkEntries r
def uptoBulkEntry {H : Type} : Lit × DataW H → Nat
  | (.string bytes, d) => bytes.length + uptoBulk d + 1
  | (_, d) => uptoBulk d + 1
 end
def uptoSmall : (H : Type) → List (DataW H) → Bool := fun _ ds => decide (uptoBulkAll ds ≤ 1048576)
def OpenSpec.upto (s : _root_.Go.ChangeSpec) : _root_.Go.OpenSpec := { _root_.Go.OpenSpec.ofChange s with cond := some uptoSmall }

/-- 'laws.FnScores', WHERE WHAT IT READS IS OF BULK AT MOST 1048576: true; the input reads as it did. -/
def fnScoresUptoRow : OpenClaim := { program := "ytjpfmckoodalnaadoor", sum := "8918faf4b8a4ee87748fa5b20d9f3426f8404bb145eeeb4f122317407d0aefd4", func := "loop.example/g00886/laws.FnScores", spec := "fnScores", named := ["loop.example/g00886/impl.resultScores", "loop.example/g00886/impl.tableDiceSpan", "loop.example/g00886/impl.columnsSpan", "loop.example/g00886/impl.oddsSpan", "loop.example/g00886/impl.resultSpan", "loop.example/g00886/impl.columnShiftSpan"], apart := false, laid := [("loop.example/g00886/impl.resultScores", laid_loop_example_g00886_impl_resultScores), ("loop.example/g00886/impl.columnsSpan", laid_loop_example_g00886_impl_columnsSpan), ("loop.example/g00886/impl.oddsSpan", laid_loop_example_g00886_impl_oddsSpan), ("loop.example/g00886/impl.tableDiceSpan", laid_loop_example_g00886_impl_tableDiceSpan), ("loop.example/g00886/impl.resultSpan", laid_loop_example_g00886_impl_resultSpan), ("loop.example/g00886/impl.columnShiftSpan", laid_loop_example_g00886_impl_columnShiftSpan)], narrowed := true }
def FnScoresUptoSaid : Prop := fnScoresUptoRow.holds Tryd.pinned (OpenSpec.upto fnScoresSpec)

end Rows
end Go.Proofs.YtjpfmckoodalnaaDoor
