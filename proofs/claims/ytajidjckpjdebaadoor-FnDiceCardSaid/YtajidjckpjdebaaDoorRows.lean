/-
  NARROWER THAN 'FOR EVERY INPUT', by the rows' own cells (each row's printed sentence says how): FnDice: laid.
  DERIVED. THE GIVEN ROWS OF THIS SEAT. 1 by the template 'for every input the law returns true; each argument reads behind the call as it read before'; 0 by the template 'total and deterministic' (their statements: YtajidjckpjdebaaDoorTotals.lean).
  GIVEN WITH THE SEED: the statements are not yours to turn. If you find one false, say at which input.
  Laid BY PROGRAM, IN A SANDBOX (cutbox-rows.mjs): the forced cells as the released guide's own fill.sh prints them over the translation 3b59ac49a0ea3599… (all of the seat's roots in one cut). By AI agents, Wed Nov 11 2026. No macro, syntax, notation, axiom, sorry.
-/
import Derived.Test.YtajidjckpjdebaaDoorChecked
import GoSem.Claim
import GoSem.ClaimJoined
import GoSem.ClaimMapViews
import Derived.JoinedTies
import Derived.KernelRfl
namespace Go.Proofs.YtajidjckpjdebaaDoor
/- THE CELL 'sum', in the pinned program and in every row, IS THE sha256 OF THE DUMP (.gsa) THAT YtajidjckpjdebaaDoorProg.lean LOADS. Nothing in Lean hashes anything: it is a label: what it is worth is what the hold of that sum in a sandbox is worth. -/
noncomputable def Tryd.pinned : Pinned := { name := "ytajidjckpjdebaadoor", sum := "3b59ac49a0ea35994645fb354955865487935b001923745ace10c01fc050c32b", checked := Tryd.checked }
namespace Rows
def none {H : Type} : Left H := { results := [], args := [] }

/- WHAT THE LISTED PACKAGE-LEVEL VARIABLES READ AS WHEN THE CALL BEGINS. Each datum BY PROGRAM (the guide's laid-datum.mjs) off the statement by which the dump's own 'gosem.cut.vars' lays the variable. In a bare row this is a premise. The card (YtajidjckpjdebaaDoorCards.lean) ties it to the program's text. -/
def laid_loop_example_g00886_impl_seedSpan {H : Type} : DataW H := .agg [.lit (.int .i64 0), .lit (.int .i64 4611686016279904236)]
def laid_loop_example_g00886_impl_dieNumberSpan {H : Type} : DataW H := .agg [.lit (.int .i64 0), .lit (.int .i64 1000000)]
def laid_loop_example_g00886_impl_diceSpan {H : Type} : DataW H := .agg [.lit (.int .i64 0), .lit (.int .i64 8)]
def laid_loop_example_g00886_impl_belowSpan {H : Type} : DataW H := .agg [.lit (.int .i64 1), .lit (.int .i64 1000000)]
def laid_loop_example_g00886_impl_shuffledSpan {H : Type} : DataW H := .agg [.lit (.int .i64 0), .lit (.int .i64 40)]
def laid_loop_example_g00886_impl_thrownSpan {H : Type} : DataW H := .agg [.lit (.int .i64 0), .lit (.int .i64 600)]

/-- 'laws.FnDice': WHATEVER THE INPUT: true; the input reads as it did. -/
def fnDiceSpec : ChangeSpec := { name := "fnDice", vars := ["loop.example/g00886/impl.seedSpan", "loop.example/g00886/impl.dieNumberSpan", "loop.example/g00886/impl.diceSpan", "loop.example/g00886/impl.shuffledSpan", "loop.example/g00886/impl.belowSpan", "loop.example/g00886/impl.thrownSpan"], fn := fun _ => fun
  | [d1, d2, g1, g2, g3, g4, g5, g6] => { results := [.lit (.bool true)], args := [d1, d2], vars := [g1, g2, g3, g4, g5, g6] }
  | _ => none }
def fnDiceRow : OpenClaim := { program := "ytajidjckpjdebaadoor", sum := "3b59ac49a0ea35994645fb354955865487935b001923745ace10c01fc050c32b", func := "loop.example/g00886/laws.FnDice", spec := "fnDice", named := ["loop.example/g00886/impl.seedSpan", "loop.example/g00886/impl.dieNumberSpan", "loop.example/g00886/impl.diceSpan", "loop.example/g00886/impl.shuffledSpan", "loop.example/g00886/impl.belowSpan", "loop.example/g00886/impl.thrownSpan"], apart := false, laid := [("loop.example/g00886/impl.seedSpan", laid_loop_example_g00886_impl_seedSpan), ("loop.example/g00886/impl.dieNumberSpan", laid_loop_example_g00886_impl_dieNumberSpan), ("loop.example/g00886/impl.diceSpan", laid_loop_example_g00886_impl_diceSpan), ("loop.example/g00886/impl.belowSpan", laid_loop_example_g00886_impl_belowSpan), ("loop.example/g00886/impl.shuffledSpan", laid_loop_example_g00886_impl_shuffledSpan), ("loop.example/g00886/impl.thrownSpan", laid_loop_example_g00886_impl_thrownSpan)] }
def FnDiceSaid : Prop := fnDiceRow.holds Tryd.pinned (OpenSpec.ofChange fnDiceSpec)

/-- ITS FALSE NEIGHBOUR: 'it returns false'. Refute it at one input. -/
def fnDiceWrong : ChangeSpec := { name := "fnDice", vars := ["loop.example/g00886/impl.seedSpan", "loop.example/g00886/impl.dieNumberSpan", "loop.example/g00886/impl.diceSpan", "loop.example/g00886/impl.shuffledSpan", "loop.example/g00886/impl.belowSpan", "loop.example/g00886/impl.thrownSpan"], fn := fun _ => fun
  | [d1, d2, g1, g2, g3, g4, g5, g6] => { results := [.lit (.bool false)], args := [d1, d2], vars := [g1, g2, g3, g4, g5, g6] }
  | _ => none }
def FnDiceWrongFalsely : Prop := fnDiceRow.holds Tryd.pinned (OpenSpec.ofChange fnDiceWrong)

/- THE SECOND FORM. 'bulk': how many values and letters a reading holds, each counted each time it is reached (what is shared counts as often as it is met; a slice's spare places count too). A statement '..UptoSaid' is the law's where the arguments, and the package variables that the reading takes, are together of bulk at most 1048576: NARROWER than '..Said'. Prove '..Said' where nothing that the law and all that it calls make is longer than what came in: it says more and counts as full. Else prove '..UptoSaid'. A law counts once. -/
mutual
def uptoBulk {H : Type} : DataW H → Nat
  | .lit (.string bytes) => bytes.length + 1
  | .lit _ => 1
  | .nil => 1
  | .ptr d => uptoBulk d + 1
  | .slice elems spare => uptoBulkAll elems + uptoBulkAll spare + 1
  | .agg parts => uptoBulkAll parts + 1
  | .iface _ d => uptoBulk d + 1
  | .map entries => uptoBulkEntries entries + 1
  | .held _ => 1
def uptoBulkAll {H : Type} : List (DataW H) → Nat
  | [] => 0
  | d :: r => uptoBulk d + uptoBulkAll r
def uptoBulkEntries {H : Type} : List (Lit × DataW H) → Nat
  | [] => 0
  | x :: r => uptoBulkEntry x + uptoBulkEntries r
def uptoBulkEntry {H : Type} : Lit × DataW H → Nat
  | (.string bytes, d) => bytes.length + uptoBulk d + 1
  | (_, d) => uptoBulk d + 1
 end
def uptoSmall : (H : Type) → List (DataW H) → Bool := fun _ ds => decide (uptoBulkAll ds ≤ 1048576)
def OpenSpec.upto (s : _root_.Go.ChangeSpec) : _root_.Go.OpenSpec := { _root_.Go.OpenSpec.ofChange s with cond := some uptoSmall }

/-- 'laws.FnDice', WHERE WHAT IT READS IS OF BULK AT MOST 1048576: true; the input reads as it did. -/
def fnDiceUptoRow : OpenClaim := { program := "ytajidjckpjdebaadoor", sum := "3b59ac49a0ea35994645fb354955865487935b001923745ace10c01fc050c32b", func := "loop.example/g00886/laws.FnDice", spec := "fnDice", named := ["loop.example/g00886/impl.seedSpan", "loop.example/g00886/impl.dieNumberSpan", "loop.example/g00886/impl.diceSpan", "loop.example/g00886/impl.shuffledSpan", "loop.example/g00886/impl.belowSpan", "loop.example/g00886/impl.thrownSpan"], apart := false, laid := [("loop.example/g00886/impl.seedSpan", laid_loop_example_g00886_impl_seedSpan), ("loop.example/g00886/impl.dieNumberSpan", laid_loop_example_g00886_impl_dieNumberSpan), ("loop.example/g00886/impl.diceSpan", laid_loop_example_g00886_impl_diceSpan), ("loop.example/g00886/impl.belowSpan", laid_loop_example_g00886_impl_belowSpan), ("loop.example/g00886/impl.shuffledSpan", laid_loop_example_g00886_impl_shuffledSpan), ("loop.example/g00886/impl.thrownSpan", laid_loop_example_g00886_impl_thrownSpan)], narrowed := true }
def FnDiceUptoSaid : Prop := fnDiceUptoRow.holds Tryd.pinned (OpenSpec.upto fnDiceSpec)

end Rows
end Go.Proofs.YtajidjckpjdebaaDoor
