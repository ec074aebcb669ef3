/-
  NARROWER THAN 'FOR EVERY INPUT', by the rows' own cells (each row's printed sentence says how): FnExactMirrorBoard: laid.
  DERIVED. THE GIVEN ROWS OF THIS SEAT. 1 by the template 'for every input the law returns true; each argument reads behind the call as it read before'; 0 by the template 'total and deterministic' (their statements: YtmolpkjdjkhnpaaGreatDoorTotals.lean).
  GIVEN WITH THE SEED: the statements are not yours to turn. If you find one false, say at which input.
  Laid BY PROGRAM, IN A SANDBOX (cutbox-rows.mjs): the forced cells as the released guide's own fill.sh prints them over the translation f5dd32e9cae95e07… (all of the seat's roots in one cut). By AI agents, Wed Nov 11 2026. No macro, syntax, notation, axiom, sorry.
-/
import Derived.Test.YtmolpkjdjkhnpaaGreatDoorChecked
import GoSem.Claim
import GoSem.ClaimJoined
import GoSem.ClaimMapViews
import Derived.JoinedTies
import Derived.KernelRfl
namespace Go.Proofs.YtmolpkjdjkhnpaaGreatDoor
/- THE CELL 'sum', in the pinned program and in every row, IS THE sha256 OF THE DUMP (.gsa) THAT YtmolpkjdjkhnpaaGreatDoorProg.lean LOADS. Nothing in Lean hashes anything: it is a label: what it is worth is what the hold of that sum in a sandbox is worth. -/
noncomputable def Tryz.pinned : Pinned := { name := "ytmolpkjdjkhnpaagreatdoor", sum := "f5dd32e9cae95e0744594b8ffbeda885bceac9c902c3e6c8aca2738403fcb486", checked := Tryz.checked }
namespace Rows
def none {H : Type} : Left H := { results := [], args := [] }

/- WHAT THE LISTED PACKAGE-LEVEL VARIABLES READ AS WHEN THE CALL BEGINS. Each datum BY PROGRAM (the guide's laid-datum.mjs) off the statement by which the dump's own 'gosem.cut.vars' lays the variable. In a bare row this is a premise. The card (YtmolpkjdjkhnpaaGreatDoorCards.lean) ties it to the program's text. -/
def laid_loop_example_g00886_impl_directionSteps {H : Type} : DataW H := .agg [.agg [.lit (.int .i64 1), .lit (.int .i64 0)], .agg [.lit (.int .i64 1), .lit (.int .i64 (-1))], .agg [.lit (.int .i64 0), .lit (.int .i64 (-1))], .agg [.lit (.int .i64 (-1)), .lit (.int .i64 0)], .agg [.lit (.int .i64 (-1)), .lit (.int .i64 1)], .agg [.lit (.int .i64 0), .lit (.int .i64 1)]]
def laid_loop_example_g00886_impl_terrainsSpan {H : Type} : DataW H := .agg [.lit (.int .i64 1), .lit (.int .i64 6)]
def laid_loop_example_g00886_impl_costSpan {H : Type} : DataW H := .agg [.lit (.int .i64 0), .lit (.int .i64 9)]
def laid_loop_example_g00886_impl_shiftSpan {H : Type} : DataW H := .agg [.lit (.int .i64 (-3)), .lit (.int .i64 3)]
def laid_loop_example_g00886_impl_heightSpan {H : Type} : DataW H := .agg [.lit (.int .i64 0), .lit (.int .i64 3)]
def laid_loop_example_g00886_impl_kindsSpan {H : Type} : DataW H := .agg [.lit (.int .i64 1), .lit (.int .i64 4)]
def laid_loop_example_g00886_impl_strengthSpan {H : Type} : DataW H := .agg [.lit (.int .i64 1), .lit (.int .i64 9)]
def laid_loop_example_g00886_impl_movesSpan {H : Type} : DataW H := .agg [.lit (.int .i64 0), .lit (.int .i64 9)]
def laid_loop_example_g00886_impl_stepsSpan {H : Type} : DataW H := .agg [.lit (.int .i64 1), .lit (.int .i64 4)]
def laid_loop_example_g00886_impl_viewSpan {H : Type} : DataW H := .agg [.lit (.int .i64 0), .lit (.int .i64 4)]
def laid_loop_example_g00886_impl_stackSpan {H : Type} : DataW H := .agg [.lit (.int .i64 1), .lit (.int .i64 4)]
def laid_loop_example_g00886_impl_riverSpan {H : Type} : DataW H := .agg [.lit (.int .i64 0), .lit (.int .i64 9)]
def laid_loop_example_g00886_impl_roadSpan {H : Type} : DataW H := .agg [.lit (.int .i64 1), .lit (.int .i64 9)]
def laid_loop_example_g00886_impl_supplySpan {H : Type} : DataW H := .agg [.lit (.int .i64 0), .lit (.int .i64 20)]
def laid_loop_example_g00886_impl_turnsSpan {H : Type} : DataW H := .agg [.lit (.int .i64 1), .lit (.int .i64 30)]

/-- 'laws.FnExactMirrorBoard': WHATEVER THE INPUT: true; the input reads as it did. -/
def fnExactMirrorBoardSpec : ChangeSpec := { name := "fnExactMirrorBoard", vars := ["loop.example/g00886/impl.terrainsSpan", "loop.example/g00886/impl.kindsSpan", "loop.example/g00886/impl.stackSpan", "loop.example/g00886/impl.riverSpan", "loop.example/g00886/impl.roadSpan", "loop.example/g00886/impl.supplySpan", "loop.example/g00886/impl.turnsSpan", "loop.example/g00886/impl.costSpan", "loop.example/g00886/impl.shiftSpan", "loop.example/g00886/impl.heightSpan", "loop.example/g00886/impl.strengthSpan", "loop.example/g00886/impl.movesSpan", "loop.example/g00886/impl.stepsSpan", "loop.example/g00886/impl.viewSpan", "loop.example/g00886/impl.directionSteps"], fn := fun _ => fun
  | [d, g1, g2, g3, g4, g5, g6, g7, g8, g9, g10, g11, g12, g13, g14, g15] => { results := [.lit (.bool true)], args := [d], vars := [g1, g2, g3, g4, g5, g6, g7, g8, g9, g10, g11, g12, g13, g14, g15] }
  | _ => none }
def fnExactMirrorBoardRow : OpenClaim := { program := "ytmolpkjdjkhnpaagreatdoor", sum := "f5dd32e9cae95e0744594b8ffbeda885bceac9c902c3e6c8aca2738403fcb486", func := "loop.example/g00886/laws.FnExactMirrorBoard", spec := "fnExactMirrorBoard", recurses := true, named := ["loop.example/g00886/impl.terrainsSpan", "loop.example/g00886/impl.kindsSpan", "loop.example/g00886/impl.stackSpan", "loop.example/g00886/impl.riverSpan", "loop.example/g00886/impl.roadSpan", "loop.example/g00886/impl.supplySpan", "loop.example/g00886/impl.turnsSpan", "loop.example/g00886/impl.costSpan", "loop.example/g00886/impl.shiftSpan", "loop.example/g00886/impl.heightSpan", "loop.example/g00886/impl.strengthSpan", "loop.example/g00886/impl.movesSpan", "loop.example/g00886/impl.stepsSpan", "loop.example/g00886/impl.viewSpan", "loop.example/g00886/impl.directionSteps"], apart := false, laid := [("loop.example/g00886/impl.directionSteps", laid_loop_example_g00886_impl_directionSteps), ("loop.example/g00886/impl.terrainsSpan", laid_loop_example_g00886_impl_terrainsSpan), ("loop.example/g00886/impl.costSpan", laid_loop_example_g00886_impl_costSpan), ("loop.example/g00886/impl.shiftSpan", laid_loop_example_g00886_impl_shiftSpan), ("loop.example/g00886/impl.heightSpan", laid_loop_example_g00886_impl_heightSpan), ("loop.example/g00886/impl.kindsSpan", laid_loop_example_g00886_impl_kindsSpan), ("loop.example/g00886/impl.strengthSpan", laid_loop_example_g00886_impl_strengthSpan), ("loop.example/g00886/impl.movesSpan", laid_loop_example_g00886_impl_movesSpan), ("loop.example/g00886/impl.stepsSpan", laid_loop_example_g00886_impl_stepsSpan), ("loop.example/g00886/impl.viewSpan", laid_loop_example_g00886_impl_viewSpan), ("loop.example/g00886/impl.stackSpan", laid_loop_example_g00886_impl_stackSpan), ("loop.example/g00886/impl.riverSpan", laid_loop_example_g00886_impl_riverSpan), ("loop.example/g00886/impl.roadSpan", laid_loop_example_g00886_impl_roadSpan), ("loop.example/g00886/impl.supplySpan", laid_loop_example_g00886_impl_supplySpan), ("loop.example/g00886/impl.turnsSpan", laid_loop_example_g00886_impl_turnsSpan)] }
def FnExactMirrorBoardSaid : Prop := fnExactMirrorBoardRow.holds Tryz.pinned (OpenSpec.ofChange fnExactMirrorBoardSpec)

/-- ITS FALSE NEIGHBOUR: 'it returns false'. Refute it at one input. -/
def fnExactMirrorBoardWrong : ChangeSpec := { name := "fnExactMirrorBoard", vars := ["loop.example/g00886/impl.terrainsSpan", "loop.example/g00886/impl.kindsSpan", "loop.example/g00886/impl.stackSpan", "loop.example/g00886/impl.riverSpan", "loop.example/g00886/impl.roadSpan", "loop.example/g00886/impl.supplySpan", "loop.example/g00886/impl.turnsSpan", "loop.example/g00886/impl.costSpan", "loop.example/g00886/impl.shiftSpan", "loop.example/g00886/impl.heightSpan", "loop.example/g00886/impl.strengthSpan", "loop.example/g00886/impl.movesSpan", "loop.example/g00886/impl.stepsSpan", "loop.example/g00886/impl.viewSpan", "loop.example/g00886/impl.directionSteps"], fn := fun _ => fun
  | [d, g1, g2, g3, g4, g5, g6, g7, g8, g9, g10, g11, g12, g13, g14, g15] => { results := [.lit (.bool false)], args := [d], vars := [g1, g2, g3, g4, g5, g6, g7, g8, g9, g10, g11, g12, g13, g14, g15] }
  | _ => none }
def FnExactMirrorBoardWrongFalsely : Prop := fnExactMirrorBoardRow.holds Tryz.pinned (OpenSpec.ofChange fnExactMirrorBoardWrong)

/- THE SECOND FORM. 'bulk': how many values and letters a reading holds, each counted each time it is reached (what is shared counts as often as it is met; a slice's spare places count too). A statement '..UptoSaid' is the law's where the arguments, and the package variables that the reading takes, are together of bulk at most 1048576: NARROWER than '..Said'. Prove '..Said' where nothing that the law and all that it calls make is longer than what came in: it says more and counts as full. Else prove '..UptoSaid'. A law counts once. -/
mutual
def uptoBulk {H : Type} : DataW H → Nat
  | .lit (.string bytes) => bytes.length + 1
  | .lit _ => 1
  | .nil => 1
  | .ptr d => uptoBulk d + 1
  | .slice elems spare => uptoBulkAll elems + uptoBulkAll spare + 1
  | .agg parts => uptoBulkAll parts + 1
  | .iface _ d => uptoBulk d + 1
  | .map entries => uptoBulkEntries entries + 1
  | .held _ => 1
def uptoBulkAll {H : Type} : List (DataW H) → Nat
  | [] => 0
  | d :: r => uptoBulk d + uptoBulkAll r
def uptoBulkEntries {H : Type} : List (Lit × DataW H) → Nat
  | [] => 0
  | x :: r => uptoBulkEntry x + uptoBulkEntries r
def uptoBulkEntry {H : Type} : Lit × DataW H → Nat
  | (.string bytes, d) => bytes.length + uptoBulk d + 1
  | (_, d) => uptoBulk d + 1
 end
def uptoSmall : (H : Type) → List (DataW H) → Bool := fun _ ds => decide (uptoBulkAll ds ≤ 1048576)
def OpenSpec.upto (s : _root_.Go.ChangeSpec) : _root_.Go.OpenSpec := { _root_.Go.OpenSpec.ofChange s with cond := some uptoSmall }

/-- 'laws.FnExactMirrorBoard', WHERE WHAT IT READS IS OF BULK AT MOST 1048576: true; the input reads as it did. -/
def fnExactMirrorBoardUptoRow : OpenClaim := { program := "ytmolpkjdjkhnpaagreatdoor", sum := "f5dd32e9cae95e0744594b8ffbeda885bceac9c902c3e6c8aca2738403fcb486", func := "loop.example/g00886/laws.FnExactMirrorBoard", spec := "fnExactMirrorBoard", recurses := true, named := ["loop.example/g00886/impl.terrainsSpan", "loop.example/g00886/impl.kindsSpan", "loop.example/g00886/impl.stackSpan", "loop.example/g00886/impl.riverSpan", "loop.example/g00886/impl.roadSpan", "loop.example/g00886/impl.supplySpan", "loop.example/g00886/impl.turnsSpan", "loop.example/g00886/impl.costSpan", "loop.example/g00886/impl.shiftSpan", "loop.example/g00886/impl.heightSpan", "loop.example/g00886/impl.strengthSpan", "loop.example/g00886/impl.movesSpan", "loop.example/g00886/impl.stepsSpan", "loop.example/g00886/impl.viewSpan", "loop.example/g00886/impl.directionSteps"], apart := false, laid := [("loop.example/g00886/impl.directionSteps", laid_loop_example_g00886_impl_directionSteps), ("loop.example/g00886/impl.terrainsSpan", laid_loop_example_g00886_impl_terrainsSpan), ("loop.example/g00886/impl.costSpan", laid_loop_example_g00886_impl_costSpan), ("loop.example/g00886/impl.shiftSpan", laid_loop_example_g00886_impl_shiftSpan), ("loop.example/g00886/impl.heightSpan", laid_loop_example_g00886_impl_heightSpan), ("loop.example/g00886/impl.kindsSpan", laid_loop_example_g00886_impl_kindsSpan), ("loop.example/g00886/impl.strengthSpan", laid_loop_example_g00886_impl_strengthSpan), ("loop.example/g00886/impl.movesSpan", laid_loop_example_g00886_impl_movesSpan), ("loop.example/g00886/impl.stepsSpan", laid_loop_example_g00886_impl_stepsSpan), ("loop.example/g00886/impl.viewSpan", laid_loop_example_g00886_impl_viewSpan), ("loop.example/g00886/impl.stackSpan", laid_loop_example_g00886_impl_stackSpan), ("loop.example/g00886/impl.riverSpan", laid_loop_example_g00886_impl_riverSpan), ("loop.example/g00886/impl.roadSpan", laid_loop_example_g00886_impl_roadSpan), ("loop.example/g00886/impl.supplySpan", laid_loop_example_g00886_impl_supplySpan), ("loop.example/g00886/impl.turnsSpan", laid_loop_example_g00886_impl_turnsSpan)], narrowed := true }
def FnExactMirrorBoardUptoSaid : Prop := fnExactMirrorBoardUptoRow.holds Tryz.pinned (OpenSpec.upto fnExactMirrorBoardSpec)

end Rows
end Go.Proofs.YtmolpkjdjkhnpaaGreatDoor
