/-
  NARROWER THAN 'FOR EVERY INPUT', by the rows' own cells (each row's printed sentence says how): FnExactNeighbourOf: laid · FnExactDirectionTo: laid · FnExactWalkFrom: laid · FnExactRingOf: laid.
  DERIVED. THE GIVEN ROWS OF THIS SEAT. 4 by the template 'for every input the law returns true; each argument reads behind the call as it read before'; 0 by the template 'total and deterministic' (their statements: YtaakimjkfbpjdaaDoorTotals.lean).
  GIVEN WITH THE SEED: the statements are not yours to turn. If you find one false, say at which input.
  Laid BY PROGRAM, IN A SANDBOX (cutbox-rows.mjs): the forced cells as the released guide's own fill.sh prints them over the translation 114f1b3118896199… (all of the seat's roots in one cut). By AI agents, Wed Nov 11 2026. No macro, syntax, notation, axiom, sorry.
-/
import Derived.Test.YtaakimjkfbpjdaaDoorChecked
import GoSem.Claim
import GoSem.ClaimJoined
import GoSem.ClaimMapViews
import Derived.JoinedTies
import Derived.KernelRfl
namespace Go.Proofs.YtaakimjkfbpjdaaDoor
/- THE CELL 'sum', in the pinned program and in every row, IS THE sha256 OF THE DUMP (.gsa) THAT YtaakimjkfbpjdaaDoorProg.lean LOADS. Nothing in Lean hashes anything: it is a label: what it is worth is what the hold of that sum in a sandbox is worth. -/
noncomputable def Tryd.pinned : Pinned := { name := "ytaakimjkfbpjdaadoor", sum := "114f1b3118896199b54470103cfcb30b6451fd42e57544e67a1cfb57c692d0d8", checked := Tryd.checked }
namespace Rows
def none {H : Type} : Left H := { results := [], args := [] }

/- WHAT THE LISTED PACKAGE-LEVEL VARIABLES READ AS WHEN THE CALL BEGINS. Each datum BY PROGRAM (the guide's laid-datum.mjs) off the statement by which the dump's own 'gosem.cut.vars' lays the variable. In a bare row this is a premise. The card (YtaakimjkfbpjdaaDoorCards.lean) ties it to the program's text. -/
def laid_loop_example_g00886_impl_directionSteps {H : Type} : DataW H := .agg [.agg [.lit (.int .i64 1), .lit (.int .i64 0)], .agg [.lit (.int .i64 1), .lit (.int .i64 (-1))], .agg [.lit (.int .i64 0), .lit (.int .i64 (-1))], .agg [.lit (.int .i64 (-1)), .lit (.int .i64 0)], .agg [.lit (.int .i64 (-1)), .lit (.int .i64 1)], .agg [.lit (.int .i64 0), .lit (.int .i64 1)]]

/-- 'laws.FnExactNeighbourOf': WHATEVER THE INPUT: true; the input reads as it did. -/
def fnExactNeighbourOfSpec : ChangeSpec := { name := "fnExactNeighbourOf", vars := ["loop.example/g00886/impl.directionSteps"], fn := fun _ => fun
  | [d1, d2, g1] => { results := [.lit (.bool true)], args := [d1, d2], vars := [g1] }
  | _ => none }
def fnExactNeighbourOfRow : OpenClaim := { program := "ytaakimjkfbpjdaadoor", sum := "114f1b3118896199b54470103cfcb30b6451fd42e57544e67a1cfb57c692d0d8", func := "loop.example/g00886/laws.FnExactNeighbourOf", spec := "fnExactNeighbourOf", named := ["loop.example/g00886/impl.directionSteps"], apart := false, laid := [("loop.example/g00886/impl.directionSteps", laid_loop_example_g00886_impl_directionSteps)] }
def FnExactNeighbourOfSaid : Prop := fnExactNeighbourOfRow.holds Tryd.pinned (OpenSpec.ofChange fnExactNeighbourOfSpec)

/-- ITS FALSE NEIGHBOUR: 'it returns false'. Refute it at one input. -/
def fnExactNeighbourOfWrong : ChangeSpec := { name := "fnExactNeighbourOf", vars := ["loop.example/g00886/impl.directionSteps"], fn := fun _ => fun
  | [d1, d2, g1] => { results := [.lit (.bool false)], args := [d1, d2], vars := [g1] }
  | _ => none }
def FnExactNeighbourOfWrongFalsely : Prop := fnExactNeighbourOfRow.holds Tryd.pinned (OpenSpec.ofChange fnExactNeighbourOfWrong)

/-- 'laws.FnExactDirectionTo': WHATEVER THE INPUT: true; the input reads as it did. -/
def fnExactDirectionToSpec : ChangeSpec := { name := "fnExactDirectionTo", vars := ["loop.example/g00886/impl.directionSteps"], fn := fun _ => fun
  | [d1, d2, g1] => { results := [.lit (.bool true)], args := [d1, d2], vars := [g1] }
  | _ => none }
def fnExactDirectionToRow : OpenClaim := { program := "ytaakimjkfbpjdaadoor", sum := "114f1b3118896199b54470103cfcb30b6451fd42e57544e67a1cfb57c692d0d8", func := "loop.example/g00886/laws.FnExactDirectionTo", spec := "fnExactDirectionTo", named := ["loop.example/g00886/impl.directionSteps"], apart := false, laid := [("loop.example/g00886/impl.directionSteps", laid_loop_example_g00886_impl_directionSteps)] }
def FnExactDirectionToSaid : Prop := fnExactDirectionToRow.holds Tryd.pinned (OpenSpec.ofChange fnExactDirectionToSpec)

/-- ITS FALSE NEIGHBOUR: 'it returns false'. Refute it at one input. -/
def fnExactDirectionToWrong : ChangeSpec := { name := "fnExactDirectionTo", vars := ["loop.example/g00886/impl.directionSteps"], fn := fun _ => fun
  | [d1, d2, g1] => { results := [.lit (.bool false)], args := [d1, d2], vars := [g1] }
  | _ => none }
def FnExactDirectionToWrongFalsely : Prop := fnExactDirectionToRow.holds Tryd.pinned (OpenSpec.ofChange fnExactDirectionToWrong)

/-- 'laws.FnExactWalkFrom': WHATEVER THE INPUT: true; the input reads as it did. -/
def fnExactWalkFromSpec : ChangeSpec := { name := "fnExactWalkFrom", vars := ["loop.example/g00886/impl.directionSteps"], fn := fun _ => fun
  | [d1, d2, g1] => { results := [.lit (.bool true)], args := [d1, d2], vars := [g1] }
  | _ => none }
def fnExactWalkFromRow : OpenClaim := { program := "ytaakimjkfbpjdaadoor", sum := "114f1b3118896199b54470103cfcb30b6451fd42e57544e67a1cfb57c692d0d8", func := "loop.example/g00886/laws.FnExactWalkFrom", spec := "fnExactWalkFrom", named := ["loop.example/g00886/impl.directionSteps"], apart := false, laid := [("loop.example/g00886/impl.directionSteps", laid_loop_example_g00886_impl_directionSteps)] }
def FnExactWalkFromSaid : Prop := fnExactWalkFromRow.holds Tryd.pinned (OpenSpec.ofChange fnExactWalkFromSpec)

/-- ITS FALSE NEIGHBOUR: 'it returns false'. Refute it at one input. -/
def fnExactWalkFromWrong : ChangeSpec := { name := "fnExactWalkFrom", vars := ["loop.example/g00886/impl.directionSteps"], fn := fun _ => fun
  | [d1, d2, g1] => { results := [.lit (.bool false)], args := [d1, d2], vars := [g1] }
  | _ => none }
def FnExactWalkFromWrongFalsely : Prop := fnExactWalkFromRow.holds Tryd.pinned (OpenSpec.ofChange fnExactWalkFromWrong)

/-- 'laws.FnExactRingOf': WHATEVER THE INPUT: true; the input reads as it did. -/
def fnExactRingOfSpec : ChangeSpec := { name := "fnExactRingOf", vars := ["loop.example/g00886/impl.directionSteps"], fn := fun _ => fun
  | [d1, d2, g1] => { results := [.lit (.bool true)], args := [d1, d2], vars := [g1] }
  | _ => none }
def fnExactRingOfRow : OpenClaim := { program := "ytaakimjkfbpjdaadoor", sum := "114f1b3118896199b54470103cfcb30b6451fd42e57544e67a1cfb57c692d0d8", func := "loop.example/g00886/laws.FnExactRingOf", spec := "fnExactRingOf", named := ["loop.example/g00886/impl.directionSteps"], apart := false, laid := [("loop.example/g00886/impl.directionSteps", laid_loop_example_g00886_impl_directionSteps)] }
def FnExactRingOfSaid : Prop := fnExactRingOfRow.holds Tryd.pinned (OpenSpec.ofChange fnExactRingOfSpec)

/-- ITS FALSE NEIGHBOUR: 'it returns false'. Refute it at one input. -/
def fnExactRingOfWrong : ChangeSpec := { name := "fnExactRingOf", vars := ["loop.example/g00886/impl.directionSteps"], fn := fun _ => fun
  | [d1, d2, g1] => { results := [.lit (.bool false)], args := [d1, d2], vars := [g1] }
  | _ => none }
def FnExactRingOfWrongFalsely : Prop := fnExactRingOfRow.holds Tryd.pinned (OpenSpec.ofChange fnExactRingOfWrong)

/- THE SECOND FORM. 'bulk': how many values and letters a reading holds, each counted each time it is reached (what is shared counts as often as it is met; a slice's spare places count too). A statement '..UptoSaid' is the law's where the arguments, and the package variables that the reading takes, are together of bulk at most 1048576: NARROWER than '..Said'. Prove '..Said' where nothing that the law and all that it calls make is longer than what came in: it says more and counts as full. Else prove '..UptoSaid'. A law counts once. -/
mutual
def uptoBulk {H : Type} : DataW H → Nat
  | .lit (.string bytes) => bytes.length + 1
  | .lit _ => 1
  | .nil => 1
  | .ptr d => uptoBulk d + 1
  | .slice elems spare => uptoBulkAll elems + uptoBulkAll spare + 1
  | .agg parts => uptoBulkAll parts + 1
  | .iface _ d => uptoBulk d + 1
  | .map entries => uptoBulkEntries entries + 1
  | .held _ => 1
def uptoBulkAll {H : Type} : List (DataW H) → Nat
  | [] => 0
  | d :: r => uptoBulk d + uptoBulkAll r
def uptoBulkEntries {H : Type} : List (Lit × DataW H) → Nat
  | [] => 0
  | x :: r => uptoBulkEntry x + uptoBulkEntries r
def uptoBulkEntry {H : Type} : Lit × DataW H → Nat
  | (.string bytes, d) => bytes.length + uptoBulk d + 1
  | (_, d) => uptoBulk d + 1
 end
def uptoSmall : (H : Type) → List (DataW H) → Bool := fun _ ds => decide (uptoBulkAll ds ≤ 1048576)
def OpenSpec.upto (s : _root_.Go.ChangeSpec) : _root_.Go.OpenSpec := { _root_.Go.OpenSpec.ofChange s with cond := some uptoSmall }

/-- 'laws.FnExactNeighbourOf', WHERE WHAT IT READS IS OF BULK AT MOST 1048576: true; the input reads as it did. -/
def fnExactNeighbourOfUptoRow : OpenClaim := { program := "ytaakimjkfbpjdaadoor", sum := "114f1b3118896199b54470103cfcb30b6451fd42e57544e67a1cfb57c692d0d8", func := "loop.example/g00886/laws.FnExactNeighbourOf", spec := "fnExactNeighbourOf", named := ["loop.example/g00886/impl.directionSteps"], apart := false, laid := [("loop.example/g00886/impl.directionSteps", laid_loop_example_g00886_impl_directionSteps)], narrowed := true }
def FnExactNeighbourOfUptoSaid : Prop := fnExactNeighbourOfUptoRow.holds Tryd.pinned (OpenSpec.upto fnExactNeighbourOfSpec)

/-- 'laws.FnExactDirectionTo', WHERE WHAT IT READS IS OF BULK AT MOST 1048576: true; the input reads as it did. -/
def fnExactDirectionToUptoRow : OpenClaim := { program := "ytaakimjkfbpjdaadoor", sum := "114f1b3118896199b54470103cfcb30b6451fd42e57544e67a1cfb57c692d0d8", func := "loop.example/g00886/laws.FnExactDirectionTo", spec := "fnExactDirectionTo", named := ["loop.example/g00886/impl.directionSteps"], apart := false, laid := [("loop.example/g00886/impl.directionSteps", laid_loop_example_g00886_impl_directionSteps)], narrowed := true }
def FnExactDirectionToUptoSaid : Prop := fnExactDirectionToUptoRow.holds Tryd.pinned (OpenSpec.upto fnExactDirectionToSpec)

/-- 'laws.FnExactWalkFrom', WHERE WHAT IT READS IS OF BULK AT MOST 1048576: true; the input reads as it did. -/
def fnExactWalkFromUptoRow : OpenClaim := { program := "ytaakimjkfbpjdaadoor", sum := "114f1b3118896199b54470103cfcb30b6451fd42e57544e67a1cfb57c692d0d8", func := "loop.example/g00886/laws.FnExactWalkFrom", spec := "fnExactWalkFrom", named := ["loop.example/g00886/impl.directionSteps"], apart := false, laid := [("loop.example/g00886/impl.directionSteps", laid_loop_example_g00886_impl_directionSteps)], narrowed := true }
def FnExactWalkFromUptoSaid : Prop := fnExactWalkFromUptoRow.holds Tryd.pinned (OpenSpec.upto fnExactWalkFromSpec)

/-- 'laws.FnExactRingOf', WHERE WHAT IT READS IS OF BULK AT MOST 1048576: true; the input reads as it did. -/
def fnExactRingOfUptoRow : OpenClaim := { program := "ytaakimjkfbpjdaadoor", sum := "114f1b3118896199b54470103cfcb30b6451fd42e57544e67a1cfb57c692d0d8", func := "loop.example/g00886/laws.FnExactRingOf", spec := "fnExactRingOf", named := ["loop.example/g00886/impl.directionSteps"], apart := false, laid := [("loop.example/g00886/impl.directionSteps", laid_loop_example_g00886_impl_directionSteps)], narrowed := true }
def FnExactRingOfUptoSaid : Prop := fnExactRingOfUptoRow.holds Tryd.pinned (OpenSpec.upto fnExactRingOfSpec)

end Rows
end Go.Proofs.YtaakimjkfbpjdaaDoor
