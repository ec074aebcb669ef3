/-
  NARROWER THAN 'FOR EVERY INPUT', by the rows' own cells (each row's printed sentence says how): FnExactMixNumbers: laid · FnExactDieAt: laid · FnExactDiceFrom: laid · FnExactNumberBelow: laid · FnExactShuffleBy: laid · FnExactSumWays: laid · FnExactWaysAtLeast: laid · FnExactFacesOf: laid · FnExactGreatestOf: laid.
  DERIVED. THE GIVEN ROWS OF THIS SEAT. 9 by the template 'for every input the law returns true; each argument reads behind the call as it read before'; 0 by the template 'total and deterministic' (their statements: YtjelgohdjmcoiaaDoorTotals.lean).
  GIVEN WITH THE SEED: the statements are not yours to turn. If you find one false, say at which input.
  Laid BY PROGRAM, IN A SANDBOX (cutbox-rows.mjs): the forced cells as the released guide's own fill.sh prints them over the translation 28bc243cf56d3d9a… (all of the seat's roots in one cut). By AI agents, Wed Nov 11 2026. No macro, syntax, notation, axiom, sorry.
-/
import Derived.Test.YtjelgohdjmcoiaaDoorChecked
import GoSem.Claim
import GoSem.ClaimJoined
import GoSem.ClaimMapViews
import Derived.JoinedTies
import Derived.KernelRfl
namespace Go.Proofs.YtjelgohdjmcoiaaDoor
/- THE CELL 'sum', in the pinned program and in every row, IS THE sha256 OF THE DUMP (.gsa) THAT YtjelgohdjmcoiaaDoorProg.lean LOADS. Nothing in Lean hashes anything: it is a label: what it is worth is what the hold of that sum in a sandbox is worth. -/
noncomputable def Tryd.pinned : Pinned := { name := "ytjelgohdjmcoiaadoor", sum := "28bc243cf56d3d9acc8c54870315fa26349bd2cd53e7d868c1195367fec475bc", checked := Tryd.checked }
namespace Rows
def none {H : Type} : Left H := { results := [], args := [] }

/- WHAT THE LISTED PACKAGE-LEVEL VARIABLES READ AS WHEN THE CALL BEGINS. Each datum BY PROGRAM (the guide's laid-datum.mjs) off the statement by which the dump's own 'gosem.cut.vars' lays the variable. In a bare row this is a premise. The card (YtjelgohdjmcoiaaDoorCards.lean) ties it to the program's text. -/
def laid_loop_example_g00886_impl_mixedSpan {H : Type} : DataW H := .agg [.lit (.int .i64 0), .lit (.int .i64 200)]
def laid_loop_example_g00886_impl_seedSpan {H : Type} : DataW H := .agg [.lit (.int .i64 0), .lit (.int .i64 4611686016279904236)]
def laid_loop_example_g00886_impl_dieNumberSpan {H : Type} : DataW H := .agg [.lit (.int .i64 0), .lit (.int .i64 1000000)]
def laid_loop_example_g00886_impl_diceSpan {H : Type} : DataW H := .agg [.lit (.int .i64 0), .lit (.int .i64 8)]
def laid_loop_example_g00886_impl_belowSpan {H : Type} : DataW H := .agg [.lit (.int .i64 1), .lit (.int .i64 1000000)]
def laid_loop_example_g00886_impl_shuffledSpan {H : Type} : DataW H := .agg [.lit (.int .i64 0), .lit (.int .i64 40)]
def laid_loop_example_g00886_impl_diceSumSpan {H : Type} : DataW H := .agg [.lit (.int .i64 (-100)), .lit (.int .i64 100)]
def laid_loop_example_g00886_impl_thrownSpan {H : Type} : DataW H := .agg [.lit (.int .i64 0), .lit (.int .i64 600)]
def laid_loop_example_g00886_impl_someDiceSpan {H : Type} : DataW H := .agg [.lit (.int .i64 1), .lit (.int .i64 8)]
def laid_loop_example_g00886_impl_faceSpan {H : Type} : DataW H := .agg [.lit (.int .i64 1), .lit (.int .i64 6)]

/-- 'laws.FnExactMixNumbers': WHATEVER THE INPUT: true; the input reads as it did. -/
def fnExactMixNumbersSpec : ChangeSpec := { name := "fnExactMixNumbers", vars := ["loop.example/g00886/impl.mixedSpan"], fn := fun _ => fun
  | [d, g1] => { results := [.lit (.bool true)], args := [d], vars := [g1] }
  | _ => none }
def fnExactMixNumbersRow : OpenClaim := { program := "ytjelgohdjmcoiaadoor", sum := "28bc243cf56d3d9acc8c54870315fa26349bd2cd53e7d868c1195367fec475bc", func := "loop.example/g00886/laws.FnExactMixNumbers", spec := "fnExactMixNumbers", named := ["loop.example/g00886/impl.mixedSpan"], apart := false, laid := [("loop.example/g00886/impl.mixedSpan", laid_loop_example_g00886_impl_mixedSpan)] }
def FnExactMixNumbersSaid : Prop := fnExactMixNumbersRow.holds Tryd.pinned (OpenSpec.ofChange fnExactMixNumbersSpec)

/-- ITS FALSE NEIGHBOUR: 'it returns false'. Refute it at one input. -/
def fnExactMixNumbersWrong : ChangeSpec := { name := "fnExactMixNumbers", vars := ["loop.example/g00886/impl.mixedSpan"], fn := fun _ => fun
  | [d, g1] => { results := [.lit (.bool false)], args := [d], vars := [g1] }
  | _ => none }
def FnExactMixNumbersWrongFalsely : Prop := fnExactMixNumbersRow.holds Tryd.pinned (OpenSpec.ofChange fnExactMixNumbersWrong)

/-- 'laws.FnExactDieAt': WHATEVER THE INPUT: true; the input reads as it did. -/
def fnExactDieAtSpec : ChangeSpec := { name := "fnExactDieAt", vars := ["loop.example/g00886/impl.seedSpan", "loop.example/g00886/impl.dieNumberSpan"], fn := fun _ => fun
  | [d1, d2, g1, g2] => { results := [.lit (.bool true)], args := [d1, d2], vars := [g1, g2] }
  | _ => none }
def fnExactDieAtRow : OpenClaim := { program := "ytjelgohdjmcoiaadoor", sum := "28bc243cf56d3d9acc8c54870315fa26349bd2cd53e7d868c1195367fec475bc", func := "loop.example/g00886/laws.FnExactDieAt", spec := "fnExactDieAt", named := ["loop.example/g00886/impl.seedSpan", "loop.example/g00886/impl.dieNumberSpan"], apart := false, laid := [("loop.example/g00886/impl.seedSpan", laid_loop_example_g00886_impl_seedSpan), ("loop.example/g00886/impl.dieNumberSpan", laid_loop_example_g00886_impl_dieNumberSpan)] }
def FnExactDieAtSaid : Prop := fnExactDieAtRow.holds Tryd.pinned (OpenSpec.ofChange fnExactDieAtSpec)

/-- ITS FALSE NEIGHBOUR: 'it returns false'. Refute it at one input. -/
def fnExactDieAtWrong : ChangeSpec := { name := "fnExactDieAt", vars := ["loop.example/g00886/impl.seedSpan", "loop.example/g00886/impl.dieNumberSpan"], fn := fun _ => fun
  | [d1, d2, g1, g2] => { results := [.lit (.bool false)], args := [d1, d2], vars := [g1, g2] }
  | _ => none }
def FnExactDieAtWrongFalsely : Prop := fnExactDieAtRow.holds Tryd.pinned (OpenSpec.ofChange fnExactDieAtWrong)

/-- 'laws.FnExactDiceFrom': WHATEVER THE INPUT: true; the input reads as it did. -/
def fnExactDiceFromSpec : ChangeSpec := { name := "fnExactDiceFrom", vars := ["loop.example/g00886/impl.seedSpan", "loop.example/g00886/impl.dieNumberSpan", "loop.example/g00886/impl.diceSpan"], fn := fun _ => fun
  | [d1, d2, d3, g1, g2, g3] => { results := [.lit (.bool true)], args := [d1, d2, d3], vars := [g1, g2, g3] }
  | _ => none }
def fnExactDiceFromRow : OpenClaim := { program := "ytjelgohdjmcoiaadoor", sum := "28bc243cf56d3d9acc8c54870315fa26349bd2cd53e7d868c1195367fec475bc", func := "loop.example/g00886/laws.FnExactDiceFrom", spec := "fnExactDiceFrom", named := ["loop.example/g00886/impl.seedSpan", "loop.example/g00886/impl.dieNumberSpan", "loop.example/g00886/impl.diceSpan"], apart := false, laid := [("loop.example/g00886/impl.seedSpan", laid_loop_example_g00886_impl_seedSpan), ("loop.example/g00886/impl.dieNumberSpan", laid_loop_example_g00886_impl_dieNumberSpan), ("loop.example/g00886/impl.diceSpan", laid_loop_example_g00886_impl_diceSpan)] }
def FnExactDiceFromSaid : Prop := fnExactDiceFromRow.holds Tryd.pinned (OpenSpec.ofChange fnExactDiceFromSpec)

/-- ITS FALSE NEIGHBOUR: 'it returns false'. Refute it at one input. -/
def fnExactDiceFromWrong : ChangeSpec := { name := "fnExactDiceFrom", vars := ["loop.example/g00886/impl.seedSpan", "loop.example/g00886/impl.dieNumberSpan", "loop.example/g00886/impl.diceSpan"], fn := fun _ => fun
  | [d1, d2, d3, g1, g2, g3] => { results := [.lit (.bool false)], args := [d1, d2, d3], vars := [g1, g2, g3] }
  | _ => none }
def FnExactDiceFromWrongFalsely : Prop := fnExactDiceFromRow.holds Tryd.pinned (OpenSpec.ofChange fnExactDiceFromWrong)

/-- 'laws.FnExactNumberBelow': WHATEVER THE INPUT: true; the input reads as it did. -/
def fnExactNumberBelowSpec : ChangeSpec := { name := "fnExactNumberBelow", vars := ["loop.example/g00886/impl.seedSpan", "loop.example/g00886/impl.dieNumberSpan", "loop.example/g00886/impl.belowSpan"], fn := fun _ => fun
  | [d1, d2, d3, g1, g2, g3] => { results := [.lit (.bool true)], args := [d1, d2, d3], vars := [g1, g2, g3] }
  | _ => none }
def fnExactNumberBelowRow : OpenClaim := { program := "ytjelgohdjmcoiaadoor", sum := "28bc243cf56d3d9acc8c54870315fa26349bd2cd53e7d868c1195367fec475bc", func := "loop.example/g00886/laws.FnExactNumberBelow", spec := "fnExactNumberBelow", named := ["loop.example/g00886/impl.seedSpan", "loop.example/g00886/impl.dieNumberSpan", "loop.example/g00886/impl.belowSpan"], apart := false, laid := [("loop.example/g00886/impl.seedSpan", laid_loop_example_g00886_impl_seedSpan), ("loop.example/g00886/impl.dieNumberSpan", laid_loop_example_g00886_impl_dieNumberSpan), ("loop.example/g00886/impl.belowSpan", laid_loop_example_g00886_impl_belowSpan)] }
def FnExactNumberBelowSaid : Prop := fnExactNumberBelowRow.holds Tryd.pinned (OpenSpec.ofChange fnExactNumberBelowSpec)

/-- ITS FALSE NEIGHBOUR: 'it returns false'. Refute it at one input. -/
def fnExactNumberBelowWrong : ChangeSpec := { name := "fnExactNumberBelow", vars := ["loop.example/g00886/impl.seedSpan", "loop.example/g00886/impl.dieNumberSpan", "loop.example/g00886/impl.belowSpan"], fn := fun _ => fun
  | [d1, d2, d3, g1, g2, g3] => { results := [.lit (.bool false)], args := [d1, d2, d3], vars := [g1, g2, g3] }
  | _ => none }
def FnExactNumberBelowWrongFalsely : Prop := fnExactNumberBelowRow.holds Tryd.pinned (OpenSpec.ofChange fnExactNumberBelowWrong)

/-- 'laws.FnExactShuffleBy': WHATEVER THE INPUT: true; the input reads as it did. -/
def fnExactShuffleBySpec : ChangeSpec := { name := "fnExactShuffleBy", vars := ["loop.example/g00886/impl.seedSpan", "loop.example/g00886/impl.shuffledSpan", "loop.example/g00886/impl.dieNumberSpan", "loop.example/g00886/impl.belowSpan"], fn := fun _ => fun
  | [d1, d2, g1, g2, g3, g4] => { results := [.lit (.bool true)], args := [d1, d2], vars := [g1, g2, g3, g4] }
  | _ => none }
def fnExactShuffleByRow : OpenClaim := { program := "ytjelgohdjmcoiaadoor", sum := "28bc243cf56d3d9acc8c54870315fa26349bd2cd53e7d868c1195367fec475bc", func := "loop.example/g00886/laws.FnExactShuffleBy", spec := "fnExactShuffleBy", named := ["loop.example/g00886/impl.seedSpan", "loop.example/g00886/impl.shuffledSpan", "loop.example/g00886/impl.dieNumberSpan", "loop.example/g00886/impl.belowSpan"], apart := false, laid := [("loop.example/g00886/impl.seedSpan", laid_loop_example_g00886_impl_seedSpan), ("loop.example/g00886/impl.dieNumberSpan", laid_loop_example_g00886_impl_dieNumberSpan), ("loop.example/g00886/impl.belowSpan", laid_loop_example_g00886_impl_belowSpan), ("loop.example/g00886/impl.shuffledSpan", laid_loop_example_g00886_impl_shuffledSpan)] }
def FnExactShuffleBySaid : Prop := fnExactShuffleByRow.holds Tryd.pinned (OpenSpec.ofChange fnExactShuffleBySpec)

/-- ITS FALSE NEIGHBOUR: 'it returns false'. Refute it at one input. -/
def fnExactShuffleByWrong : ChangeSpec := { name := "fnExactShuffleBy", vars := ["loop.example/g00886/impl.seedSpan", "loop.example/g00886/impl.shuffledSpan", "loop.example/g00886/impl.dieNumberSpan", "loop.example/g00886/impl.belowSpan"], fn := fun _ => fun
  | [d1, d2, g1, g2, g3, g4] => { results := [.lit (.bool false)], args := [d1, d2], vars := [g1, g2, g3, g4] }
  | _ => none }
def FnExactShuffleByWrongFalsely : Prop := fnExactShuffleByRow.holds Tryd.pinned (OpenSpec.ofChange fnExactShuffleByWrong)

/-- 'laws.FnExactSumWays': WHATEVER THE INPUT: true; the input reads as it did. -/
def fnExactSumWaysSpec : ChangeSpec := { name := "fnExactSumWays", vars := ["loop.example/g00886/impl.diceSpan", "loop.example/g00886/impl.diceSumSpan"], fn := fun _ => fun
  | [d1, d2, g1, g2] => { results := [.lit (.bool true)], args := [d1, d2], vars := [g1, g2] }
  | _ => none }
def fnExactSumWaysRow : OpenClaim := { program := "ytjelgohdjmcoiaadoor", sum := "28bc243cf56d3d9acc8c54870315fa26349bd2cd53e7d868c1195367fec475bc", func := "loop.example/g00886/laws.FnExactSumWays", spec := "fnExactSumWays", named := ["loop.example/g00886/impl.diceSpan", "loop.example/g00886/impl.diceSumSpan"], apart := false, laid := [("loop.example/g00886/impl.diceSpan", laid_loop_example_g00886_impl_diceSpan), ("loop.example/g00886/impl.diceSumSpan", laid_loop_example_g00886_impl_diceSumSpan)] }
def FnExactSumWaysSaid : Prop := fnExactSumWaysRow.holds Tryd.pinned (OpenSpec.ofChange fnExactSumWaysSpec)

/-- ITS FALSE NEIGHBOUR: 'it returns false'. Refute it at one input. -/
def fnExactSumWaysWrong : ChangeSpec := { name := "fnExactSumWays", vars := ["loop.example/g00886/impl.diceSpan", "loop.example/g00886/impl.diceSumSpan"], fn := fun _ => fun
  | [d1, d2, g1, g2] => { results := [.lit (.bool false)], args := [d1, d2], vars := [g1, g2] }
  | _ => none }
def FnExactSumWaysWrongFalsely : Prop := fnExactSumWaysRow.holds Tryd.pinned (OpenSpec.ofChange fnExactSumWaysWrong)

/-- 'laws.FnExactWaysAtLeast': WHATEVER THE INPUT: true; the input reads as it did. -/
def fnExactWaysAtLeastSpec : ChangeSpec := { name := "fnExactWaysAtLeast", vars := ["loop.example/g00886/impl.diceSpan", "loop.example/g00886/impl.diceSumSpan"], fn := fun _ => fun
  | [d1, d2, g1, g2] => { results := [.lit (.bool true)], args := [d1, d2], vars := [g1, g2] }
  | _ => none }
def fnExactWaysAtLeastRow : OpenClaim := { program := "ytjelgohdjmcoiaadoor", sum := "28bc243cf56d3d9acc8c54870315fa26349bd2cd53e7d868c1195367fec475bc", func := "loop.example/g00886/laws.FnExactWaysAtLeast", spec := "fnExactWaysAtLeast", named := ["loop.example/g00886/impl.diceSpan", "loop.example/g00886/impl.diceSumSpan"], apart := false, laid := [("loop.example/g00886/impl.diceSpan", laid_loop_example_g00886_impl_diceSpan), ("loop.example/g00886/impl.diceSumSpan", laid_loop_example_g00886_impl_diceSumSpan)] }
def FnExactWaysAtLeastSaid : Prop := fnExactWaysAtLeastRow.holds Tryd.pinned (OpenSpec.ofChange fnExactWaysAtLeastSpec)

/-- ITS FALSE NEIGHBOUR: 'it returns false'. Refute it at one input. -/
def fnExactWaysAtLeastWrong : ChangeSpec := { name := "fnExactWaysAtLeast", vars := ["loop.example/g00886/impl.diceSpan", "loop.example/g00886/impl.diceSumSpan"], fn := fun _ => fun
  | [d1, d2, g1, g2] => { results := [.lit (.bool false)], args := [d1, d2], vars := [g1, g2] }
  | _ => none }
def FnExactWaysAtLeastWrongFalsely : Prop := fnExactWaysAtLeastRow.holds Tryd.pinned (OpenSpec.ofChange fnExactWaysAtLeastWrong)

/-- 'laws.FnExactFacesOf': WHATEVER THE INPUT: true; the input reads as it did. -/
def fnExactFacesOfSpec : ChangeSpec := { name := "fnExactFacesOf", vars := ["loop.example/g00886/impl.seedSpan", "loop.example/g00886/impl.thrownSpan"], fn := fun _ => fun
  | [d1, d2, g1, g2] => { results := [.lit (.bool true)], args := [d1, d2], vars := [g1, g2] }
  | _ => none }
def fnExactFacesOfRow : OpenClaim := { program := "ytjelgohdjmcoiaadoor", sum := "28bc243cf56d3d9acc8c54870315fa26349bd2cd53e7d868c1195367fec475bc", func := "loop.example/g00886/laws.FnExactFacesOf", spec := "fnExactFacesOf", named := ["loop.example/g00886/impl.seedSpan", "loop.example/g00886/impl.thrownSpan"], apart := false, laid := [("loop.example/g00886/impl.seedSpan", laid_loop_example_g00886_impl_seedSpan), ("loop.example/g00886/impl.thrownSpan", laid_loop_example_g00886_impl_thrownSpan)] }
def FnExactFacesOfSaid : Prop := fnExactFacesOfRow.holds Tryd.pinned (OpenSpec.ofChange fnExactFacesOfSpec)

/-- ITS FALSE NEIGHBOUR: 'it returns false'. Refute it at one input. -/
def fnExactFacesOfWrong : ChangeSpec := { name := "fnExactFacesOf", vars := ["loop.example/g00886/impl.seedSpan", "loop.example/g00886/impl.thrownSpan"], fn := fun _ => fun
  | [d1, d2, g1, g2] => { results := [.lit (.bool false)], args := [d1, d2], vars := [g1, g2] }
  | _ => none }
def FnExactFacesOfWrongFalsely : Prop := fnExactFacesOfRow.holds Tryd.pinned (OpenSpec.ofChange fnExactFacesOfWrong)

/-- 'laws.FnExactGreatestOf': WHATEVER THE INPUT: true; the input reads as it did. -/
def fnExactGreatestOfSpec : ChangeSpec := { name := "fnExactGreatestOf", vars := ["loop.example/g00886/impl.someDiceSpan", "loop.example/g00886/impl.faceSpan"], fn := fun _ => fun
  | [d1, d2, g1, g2] => { results := [.lit (.bool true)], args := [d1, d2], vars := [g1, g2] }
  | _ => none }
def fnExactGreatestOfRow : OpenClaim := { program := "ytjelgohdjmcoiaadoor", sum := "28bc243cf56d3d9acc8c54870315fa26349bd2cd53e7d868c1195367fec475bc", func := "loop.example/g00886/laws.FnExactGreatestOf", spec := "fnExactGreatestOf", named := ["loop.example/g00886/impl.someDiceSpan", "loop.example/g00886/impl.faceSpan"], apart := false, laid := [("loop.example/g00886/impl.someDiceSpan", laid_loop_example_g00886_impl_someDiceSpan), ("loop.example/g00886/impl.faceSpan", laid_loop_example_g00886_impl_faceSpan)] }
def FnExactGreatestOfSaid : Prop := fnExactGreatestOfRow.holds Tryd.pinned (OpenSpec.ofChange fnExactGreatestOfSpec)

/-- ITS FALSE NEIGHBOUR: 'it returns false'. Refute it at one input. -/
def fnExactGreatestOfWrong : ChangeSpec := { name := "fnExactGreatestOf", vars := ["loop.example/g00886/impl.someDiceSpan", "loop.example/g00886/impl.faceSpan"], fn := fun _ => fun
  | [d1, d2, g1, g2] => { results := [.lit (.bool false)], args := [d1, d2], vars := [g1, g2] }
  | _ => none }
def FnExactGreatestOfWrongFalsely : Prop := fnExactGreatestOfRow.holds Tryd.pinned (OpenSpec.ofChange fnExactGreatestOfWrong)

/- THE SECOND FORM. 'bulk': how many values and letters a reading holds, each counted each time it is reached (what is shared counts as often as it is met; a slice's spare places count too). A statement '..UptoSaid' is the law's where the arguments, and the package variables that the reading takes, are together of bulk at most 1048576: NARROWER than '..Said'. Prove '..Said' where nothing that the law and all that it calls make is longer than what came in: it says more and counts as full. Else prove '..UptoSaid'. A law counts once. -/
mutual
def uptoBulk {H : Type} : DataW H → Nat
  | .lit (.string bytes) => bytes.length + 1
  | .lit _ => 1
  | .nil => 1
  | .ptr d => uptoBulk d + 1
  | .slice elems spare => uptoBulkAll elems + uptoBulkAll spare + 1
  | .agg parts => uptoBulkAll parts + 1
  | .iface _ d => uptoBulk d + 1
  | .map entries => uptoBulkEntries entries + 1
  | .held _ => 1
def uptoBulkAll {H : Type} : List (DataW H) → Nat
  | [] => 0
  | d :: r => uptoBulk d + uptoBulkAll r
def uptoBulkEntries {H : Type} : List (Lit × DataW H) → Nat
  | [] => 0
  | x :: r => uptoBulkEntry x + uptoBulkEntries r
def uptoBulkEntry {H : Type} : Lit × DataW H → Nat
  | (.string bytes, d) => bytes.length + uptoBulk d + 1
  | (_, d) => uptoBulk d + 1
 end
def uptoSmall : (H : Type) → List (DataW H) → Bool := fun _ ds => decide (uptoBulkAll ds ≤ 1048576)
def OpenSpec.upto (s : _root_.Go.ChangeSpec) : _root_.Go.OpenSpec := { _root_.Go.OpenSpec.ofChange s with cond := some uptoSmall }

/-- 'laws.FnExactMixNumbers', WHERE WHAT IT READS IS OF BULK AT MOST 1048576: true; the input reads as it did. -/
def fnExactMixNumbersUptoRow : OpenClaim := { program := "ytjelgohdjmcoiaadoor", sum := "28bc243cf56d3d9acc8c54870315fa26349bd2cd53e7d868c1195367fec475bc", func := "loop.example/g00886/laws.FnExactMixNumbers", spec := "fnExactMixNumbers", named := ["loop.example/g00886/impl.mixedSpan"], apart := false, laid := [("loop.example/g00886/impl.mixedSpan", laid_loop_example_g00886_impl_mixedSpan)], narrowed := true }
def FnExactMixNumbersUptoSaid : Prop := fnExactMixNumbersUptoRow.holds Tryd.pinned (OpenSpec.upto fnExactMixNumbersSpec)

/-- 'laws.FnExactDieAt', WHERE WHAT IT READS IS OF BULK AT MOST 1048576: true; the input reads as it did. -/
def fnExactDieAtUptoRow : OpenClaim := { program := "ytjelgohdjmcoiaadoor", sum := "28bc243cf56d3d9acc8c54870315fa26349bd2cd53e7d868c1195367fec475bc", func := "loop.example/g00886/laws.FnExactDieAt", spec := "fnExactDieAt", named := ["loop.example/g00886/impl.seedSpan", "loop.example/g00886/impl.dieNumberSpan"], apart := false, laid := [("loop.example/g00886/impl.seedSpan", laid_loop_example_g00886_impl_seedSpan), ("loop.example/g00886/impl.dieNumberSpan", laid_loop_example_g00886_impl_dieNumberSpan)], narrowed := true }
def FnExactDieAtUptoSaid : Prop := fnExactDieAtUptoRow.holds Tryd.pinned (OpenSpec.upto fnExactDieAtSpec)

/-- 'laws.FnExactDiceFrom', WHERE WHAT IT READS IS OF BULK AT MOST 1048576: true; the input reads as it did. -/
def fnExactDiceFromUptoRow : OpenClaim := { program := "ytjelgohdjmcoiaadoor", sum := "28bc243cf56d3d9acc8c54870315fa26349bd2cd53e7d868c1195367fec475bc", func := "loop.example/g00886/laws.FnExactDiceFrom", spec := "fnExactDiceFrom", named := ["loop.example/g00886/impl.seedSpan", "loop.example/g00886/impl.dieNumberSpan", "loop.example/g00886/impl.diceSpan"], apart := false, laid := [("loop.example/g00886/impl.seedSpan", laid_loop_example_g00886_impl_seedSpan), ("loop.example/g00886/impl.dieNumberSpan", laid_loop_example_g00886_impl_dieNumberSpan), ("loop.example/g00886/impl.diceSpan", laid_loop_example_g00886_impl_diceSpan)], narrowed := true }
def FnExactDiceFromUptoSaid : Prop := fnExactDiceFromUptoRow.holds Tryd.pinned (OpenSpec.upto fnExactDiceFromSpec)

/-- 'laws.FnExactNumberBelow', WHERE WHAT IT READS IS OF BULK AT MOST 1048576: true; the input reads as it did. -/
def fnExactNumberBelowUptoRow : OpenClaim := { program := "ytjelgohdjmcoiaadoor", sum := "28bc243cf56d3d9acc8c54870315fa26349bd2cd53e7d868c1195367fec475bc", func := "loop.example/g00886/laws.FnExactNumberBelow", spec := "fnExactNumberBelow", named := ["loop.example/g00886/impl.seedSpan", "loop.example/g00886/impl.dieNumberSpan", "loop.example/g00886/impl.belowSpan"], apart := false, laid := [("loop.example/g00886/impl.seedSpan", laid_loop_example_g00886_impl_seedSpan), ("loop.example/g00886/impl.dieNumberSpan", laid_loop_example_g00886_impl_dieNumberSpan), ("loop.example/g00886/impl.belowSpan", laid_loop_example_g00886_impl_belowSpan)], narrowed := true }
def FnExactNumberBelowUptoSaid : Prop := fnExactNumberBelowUptoRow.holds Tryd.pinned (OpenSpec.upto fnExactNumberBelowSpec)

/-- 'laws.FnExactShuffleBy', WHERE WHAT IT READS IS OF BULK AT MOST 1048576: true; the input reads as it did. -/
def fnExactShuffleByUptoRow : OpenClaim := { program := "ytjelgohdjmcoiaadoor", sum := "28bc243cf56d3d9acc8c54870315fa26349bd2cd53e7d868c1195367fec475bc", func := "loop.example/g00886/laws.FnExactShuffleBy", spec := "fnExactShuffleBy", named := ["loop.example/g00886/impl.seedSpan", "loop.example/g00886/impl.shuffledSpan", "loop.example/g00886/impl.dieNumberSpan", "loop.example/g00886/impl.belowSpan"], apart := false, laid := [("loop.example/g00886/impl.seedSpan", laid_loop_example_g00886_impl_seedSpan), ("loop.example/g00886/impl.dieNumberSpan", laid_loop_example_g00886_impl_dieNumberSpan), ("loop.example/g00886/impl.belowSpan", laid_loop_example_g00886_impl_belowSpan), ("loop.example/g00886/impl.shuffledSpan", laid_loop_example_g00886_impl_shuffledSpan)], narrowed := true }
def FnExactShuffleByUptoSaid : Prop := fnExactShuffleByUptoRow.holds Tryd.pinned (OpenSpec.upto fnExactShuffleBySpec)

/-- 'laws.FnExactSumWays', WHERE WHAT IT READS IS OF BULK AT MOST 1048576: true; the input reads as it did. -/
def fnExactSumWaysUptoRow : OpenClaim := { program := "ytjelgohdjmcoiaadoor", sum := "28bc243cf56d3d9acc8c54870315fa26349bd2cd53e7d868c1195367fec475bc", func := "loop.example/g00886/laws.FnExactSumWays", spec := "fnExactSumWays", named := ["loop.example/g00886/impl.diceSpan", "loop.example/g00886/impl.diceSumSpan"], apart := false, laid := [("loop.example/g00886/impl.diceSpan", laid_loop_example_g00886_impl_diceSpan), ("loop.example/g00886/impl.diceSumSpan", laid_loop_example_g00886_impl_diceSumSpan)], narrowed := true }
def FnExactSumWaysUptoSaid : Prop := fnExactSumWaysUptoRow.holds Tryd.pinned (OpenSpec.upto fnExactSumWaysSpec)

/-- 'laws.FnExactWaysAtLeast', WHERE WHAT IT READS IS OF BULK AT MOST 1048576: true; the input reads as it did. -/
def fnExactWaysAtLeastUptoRow : OpenClaim := { program := "ytjelgohdjmcoiaadoor", sum := "28bc243cf56d3d9acc8c54870315fa26349bd2cd53e7d868c1195367fec475bc", func := "loop.example/g00886/laws.FnExactWaysAtLeast", spec := "fnExactWaysAtLeast", named := ["loop.example/g00886/impl.diceSpan", "loop.example/g00886/impl.diceSumSpan"], apart := false, laid := [("loop.example/g00886/impl.diceSpan", laid_loop_example_g00886_impl_diceSpan), ("loop.example/g00886/impl.diceSumSpan", laid_loop_example_g00886_impl_diceSumSpan)], narrowed := true }
def FnExactWaysAtLeastUptoSaid : Prop := fnExactWaysAtLeastUptoRow.holds Tryd.pinned (OpenSpec.upto fnExactWaysAtLeastSpec)

/-- 'laws.FnExactFacesOf', WHERE WHAT IT READS IS OF BULK AT MOST 1048576: true; the input reads as it did. -/
def fnExactFacesOfUptoRow : OpenClaim := { program := "ytjelgohdjmcoiaadoor", sum := "28bc243cf56d3d9acc8c54870315fa26349bd2cd53e7d868c1195367fec475bc", func := "loop.example/g00886/laws.FnExactFacesOf", spec := "fnExactFacesOf", named := ["loop.example/g00886/impl.seedSpan", "loop.example/g00886/impl.thrownSpan"], apart := false, laid := [("loop.example/g00886/impl.seedSpan", laid_loop_example_g00886_impl_seedSpan), ("loop.example/g00886/impl.thrownSpan", laid_loop_example_g00886_impl_thrownSpan)], narrowed := true }
def FnExactFacesOfUptoSaid : Prop := fnExactFacesOfUptoRow.holds Tryd.pinned (OpenSpec.upto fnExactFacesOfSpec)

/-- 'laws.FnExactGreatestOf', WHERE WHAT IT READS IS OF BULK AT MOST 1048576: true; the input reads as it did. -/
def fnExactGreatestOfUptoRow : OpenClaim := { program := "ytjelgohdjmcoiaadoor", sum := "28bc243cf56d3d9acc8c54870315fa26349bd2cd53e7d868c1195367fec475bc", func := "loop.example/g00886/laws.FnExactGreatestOf", spec := "fnExactGreatestOf", named := ["loop.example/g00886/impl.someDiceSpan", "loop.example/g00886/impl.faceSpan"], apart := false, laid := [("loop.example/g00886/impl.someDiceSpan", laid_loop_example_g00886_impl_someDiceSpan), ("loop.example/g00886/impl.faceSpan", laid_loop_example_g00886_impl_faceSpan)], narrowed := true }
def FnExactGreatestOfUptoSaid : Prop := fnExactGreatestOfUptoRow.holds Tryd.pinned (OpenSpec.upto fnExactGreatestOfSpec)

end Rows
end Go.Proofs.YtjelgohdjmcoiaaDoor
