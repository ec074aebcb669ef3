/-
  NARROWER THAN 'FOR EVERY INPUT', by the rows' own cells (each row's printed sentence says how): FnExactIsMap: laid · FnExactIndexOf: laid · FnExactHexAt: laid · FnExactNextTo: laid · FnExactEdgeOf: laid · FnExactEndsOf: laid · FnExactHasRiver: laid · FnExactHasRoad: laid · FnExactNearOn: laid · FnExactMirrorMap: laid.
  DERIVED. THE GIVEN ROWS OF THIS SEAT. 10 by the template 'for every input the law returns true; each argument reads behind the call as it read before'; 0 by the template 'total and deterministic' (their statements: YtpfnljhnjembpaaDoorTotals.lean).
  GIVEN WITH THE SEED: the statements are not yours to turn. If you find one false, say at which input.
  Laid BY PROGRAM, IN A SANDBOX (cutbox-rows.mjs): the forced cells as the released guide's own fill.sh prints them over the translation 9c3dc744cf825278… (all of the seat's roots in one cut). By AI agents, Wed Nov 11 2026. No macro, syntax, notation, axiom, sorry.
-/
import Derived.Test.YtpfnljhnjembpaaDoorChecked
import GoSem.Claim
import GoSem.ClaimJoined
import GoSem.ClaimMapViews
import Derived.JoinedTies
import Derived.KernelRfl
namespace Go.Proofs.YtpfnljhnjembpaaDoor
/- THE CELL 'sum', in the pinned program and in every row, IS THE sha256 OF THE DUMP (.gsa) THAT YtpfnljhnjembpaaDoorProg.lean LOADS. Nothing in Lean hashes anything: it is a label: what it is worth is what the hold of that sum in a sandbox is worth. -/
noncomputable def Tryd.pinned : Pinned := { name := "ytpfnljhnjembpaadoor", sum := "9c3dc744cf825278e88c61524d22e38ea6989a9550018313c2a90dc8e78af82b", checked := Tryd.checked }
namespace Rows
def none {H : Type} : Left H := { results := [], args := [] }

/- WHAT THE LISTED PACKAGE-LEVEL VARIABLES READ AS WHEN THE CALL BEGINS. Each datum BY PROGRAM (the guide's laid-datum.mjs) off the statement by which the dump's own 'gosem.cut.vars' lays the variable. In a bare row this is a premise. The card (YtpfnljhnjembpaaDoorCards.lean) ties it to the program's text. -/
def laid_loop_example_g00886_impl_directionSteps {H : Type} : DataW H := .agg [.agg [.lit (.int .i64 1), .lit (.int .i64 0)], .agg [.lit (.int .i64 1), .lit (.int .i64 (-1))], .agg [.lit (.int .i64 0), .lit (.int .i64 (-1))], .agg [.lit (.int .i64 (-1)), .lit (.int .i64 0)], .agg [.lit (.int .i64 (-1)), .lit (.int .i64 1)], .agg [.lit (.int .i64 0), .lit (.int .i64 1)]]

/-- 'laws.FnExactIsMap': WHATEVER THE INPUT: true; the input reads as it did. -/
def fnExactIsMapSpec : ChangeSpec := { name := "fnExactIsMap", vars := ["loop.example/g00886/impl.directionSteps"], fn := fun _ => fun
  | [d, g1] => { results := [.lit (.bool true)], args := [d], vars := [g1] }
  | _ => none }
def fnExactIsMapRow : OpenClaim := { program := "ytpfnljhnjembpaadoor", sum := "9c3dc744cf825278e88c61524d22e38ea6989a9550018313c2a90dc8e78af82b", func := "loop.example/g00886/laws.FnExactIsMap", spec := "fnExactIsMap", named := ["loop.example/g00886/impl.directionSteps"], apart := false, laid := [("loop.example/g00886/impl.directionSteps", laid_loop_example_g00886_impl_directionSteps)] }
def FnExactIsMapSaid : Prop := fnExactIsMapRow.holds Tryd.pinned (OpenSpec.ofChange fnExactIsMapSpec)

/-- ITS FALSE NEIGHBOUR: 'it returns false'. Refute it at one input. -/
def fnExactIsMapWrong : ChangeSpec := { name := "fnExactIsMap", vars := ["loop.example/g00886/impl.directionSteps"], fn := fun _ => fun
  | [d, g1] => { results := [.lit (.bool false)], args := [d], vars := [g1] }
  | _ => none }
def FnExactIsMapWrongFalsely : Prop := fnExactIsMapRow.holds Tryd.pinned (OpenSpec.ofChange fnExactIsMapWrong)

/-- 'laws.FnExactIndexOf': WHATEVER THE INPUT: true; the input reads as it did. -/
def fnExactIndexOfSpec : ChangeSpec := { name := "fnExactIndexOf", vars := ["loop.example/g00886/impl.directionSteps"], fn := fun _ => fun
  | [d1, d2, g1] => { results := [.lit (.bool true)], args := [d1, d2], vars := [g1] }
  | _ => none }
def fnExactIndexOfRow : OpenClaim := { program := "ytpfnljhnjembpaadoor", sum := "9c3dc744cf825278e88c61524d22e38ea6989a9550018313c2a90dc8e78af82b", func := "loop.example/g00886/laws.FnExactIndexOf", spec := "fnExactIndexOf", named := ["loop.example/g00886/impl.directionSteps"], apart := false, laid := [("loop.example/g00886/impl.directionSteps", laid_loop_example_g00886_impl_directionSteps)] }
def FnExactIndexOfSaid : Prop := fnExactIndexOfRow.holds Tryd.pinned (OpenSpec.ofChange fnExactIndexOfSpec)

/-- ITS FALSE NEIGHBOUR: 'it returns false'. Refute it at one input. -/
def fnExactIndexOfWrong : ChangeSpec := { name := "fnExactIndexOf", vars := ["loop.example/g00886/impl.directionSteps"], fn := fun _ => fun
  | [d1, d2, g1] => { results := [.lit (.bool false)], args := [d1, d2], vars := [g1] }
  | _ => none }
def FnExactIndexOfWrongFalsely : Prop := fnExactIndexOfRow.holds Tryd.pinned (OpenSpec.ofChange fnExactIndexOfWrong)

/-- 'laws.FnExactHexAt': WHATEVER THE INPUT: true; the input reads as it did. -/
def fnExactHexAtSpec : ChangeSpec := { name := "fnExactHexAt", vars := ["loop.example/g00886/impl.directionSteps"], fn := fun _ => fun
  | [d1, d2, g1] => { results := [.lit (.bool true)], args := [d1, d2], vars := [g1] }
  | _ => none }
def fnExactHexAtRow : OpenClaim := { program := "ytpfnljhnjembpaadoor", sum := "9c3dc744cf825278e88c61524d22e38ea6989a9550018313c2a90dc8e78af82b", func := "loop.example/g00886/laws.FnExactHexAt", spec := "fnExactHexAt", named := ["loop.example/g00886/impl.directionSteps"], apart := false, laid := [("loop.example/g00886/impl.directionSteps", laid_loop_example_g00886_impl_directionSteps)] }
def FnExactHexAtSaid : Prop := fnExactHexAtRow.holds Tryd.pinned (OpenSpec.ofChange fnExactHexAtSpec)

/-- ITS FALSE NEIGHBOUR: 'it returns false'. Refute it at one input. -/
def fnExactHexAtWrong : ChangeSpec := { name := "fnExactHexAt", vars := ["loop.example/g00886/impl.directionSteps"], fn := fun _ => fun
  | [d1, d2, g1] => { results := [.lit (.bool false)], args := [d1, d2], vars := [g1] }
  | _ => none }
def FnExactHexAtWrongFalsely : Prop := fnExactHexAtRow.holds Tryd.pinned (OpenSpec.ofChange fnExactHexAtWrong)

/-- 'laws.FnExactNextTo': WHATEVER THE INPUT: true; the input reads as it did. -/
def fnExactNextToSpec : ChangeSpec := { name := "fnExactNextTo", vars := ["loop.example/g00886/impl.directionSteps"], fn := fun _ => fun
  | [d1, d2, d3, g1] => { results := [.lit (.bool true)], args := [d1, d2, d3], vars := [g1] }
  | _ => none }
def fnExactNextToRow : OpenClaim := { program := "ytpfnljhnjembpaadoor", sum := "9c3dc744cf825278e88c61524d22e38ea6989a9550018313c2a90dc8e78af82b", func := "loop.example/g00886/laws.FnExactNextTo", spec := "fnExactNextTo", named := ["loop.example/g00886/impl.directionSteps"], apart := false, laid := [("loop.example/g00886/impl.directionSteps", laid_loop_example_g00886_impl_directionSteps)] }
def FnExactNextToSaid : Prop := fnExactNextToRow.holds Tryd.pinned (OpenSpec.ofChange fnExactNextToSpec)

/-- ITS FALSE NEIGHBOUR: 'it returns false'. Refute it at one input. -/
def fnExactNextToWrong : ChangeSpec := { name := "fnExactNextTo", vars := ["loop.example/g00886/impl.directionSteps"], fn := fun _ => fun
  | [d1, d2, d3, g1] => { results := [.lit (.bool false)], args := [d1, d2, d3], vars := [g1] }
  | _ => none }
def FnExactNextToWrongFalsely : Prop := fnExactNextToRow.holds Tryd.pinned (OpenSpec.ofChange fnExactNextToWrong)

/-- 'laws.FnExactEdgeOf': WHATEVER THE INPUT: true; the input reads as it did. -/
def fnExactEdgeOfSpec : ChangeSpec := { name := "fnExactEdgeOf", vars := ["loop.example/g00886/impl.directionSteps"], fn := fun _ => fun
  | [d1, d2, d3, g1] => { results := [.lit (.bool true)], args := [d1, d2, d3], vars := [g1] }
  | _ => none }
def fnExactEdgeOfRow : OpenClaim := { program := "ytpfnljhnjembpaadoor", sum := "9c3dc744cf825278e88c61524d22e38ea6989a9550018313c2a90dc8e78af82b", func := "loop.example/g00886/laws.FnExactEdgeOf", spec := "fnExactEdgeOf", named := ["loop.example/g00886/impl.directionSteps"], apart := false, laid := [("loop.example/g00886/impl.directionSteps", laid_loop_example_g00886_impl_directionSteps)] }
def FnExactEdgeOfSaid : Prop := fnExactEdgeOfRow.holds Tryd.pinned (OpenSpec.ofChange fnExactEdgeOfSpec)

/-- ITS FALSE NEIGHBOUR: 'it returns false'. Refute it at one input. -/
def fnExactEdgeOfWrong : ChangeSpec := { name := "fnExactEdgeOf", vars := ["loop.example/g00886/impl.directionSteps"], fn := fun _ => fun
  | [d1, d2, d3, g1] => { results := [.lit (.bool false)], args := [d1, d2, d3], vars := [g1] }
  | _ => none }
def FnExactEdgeOfWrongFalsely : Prop := fnExactEdgeOfRow.holds Tryd.pinned (OpenSpec.ofChange fnExactEdgeOfWrong)

/-- 'laws.FnExactEndsOf': WHATEVER THE INPUT: true; the input reads as it did. -/
def fnExactEndsOfSpec : ChangeSpec := { name := "fnExactEndsOf", vars := ["loop.example/g00886/impl.directionSteps"], fn := fun _ => fun
  | [d1, d2, g1] => { results := [.lit (.bool true)], args := [d1, d2], vars := [g1] }
  | _ => none }
def fnExactEndsOfRow : OpenClaim := { program := "ytpfnljhnjembpaadoor", sum := "9c3dc744cf825278e88c61524d22e38ea6989a9550018313c2a90dc8e78af82b", func := "loop.example/g00886/laws.FnExactEndsOf", spec := "fnExactEndsOf", named := ["loop.example/g00886/impl.directionSteps"], apart := false, laid := [("loop.example/g00886/impl.directionSteps", laid_loop_example_g00886_impl_directionSteps)] }
def FnExactEndsOfSaid : Prop := fnExactEndsOfRow.holds Tryd.pinned (OpenSpec.ofChange fnExactEndsOfSpec)

/-- ITS FALSE NEIGHBOUR: 'it returns false'. Refute it at one input. -/
def fnExactEndsOfWrong : ChangeSpec := { name := "fnExactEndsOf", vars := ["loop.example/g00886/impl.directionSteps"], fn := fun _ => fun
  | [d1, d2, g1] => { results := [.lit (.bool false)], args := [d1, d2], vars := [g1] }
  | _ => none }
def FnExactEndsOfWrongFalsely : Prop := fnExactEndsOfRow.holds Tryd.pinned (OpenSpec.ofChange fnExactEndsOfWrong)

/-- 'laws.FnExactHasRiver': WHATEVER THE INPUT: true; the input reads as it did. -/
def fnExactHasRiverSpec : ChangeSpec := { name := "fnExactHasRiver", vars := ["loop.example/g00886/impl.directionSteps"], fn := fun _ => fun
  | [d1, d2, d3, g1] => { results := [.lit (.bool true)], args := [d1, d2, d3], vars := [g1] }
  | _ => none }
def fnExactHasRiverRow : OpenClaim := { program := "ytpfnljhnjembpaadoor", sum := "9c3dc744cf825278e88c61524d22e38ea6989a9550018313c2a90dc8e78af82b", func := "loop.example/g00886/laws.FnExactHasRiver", spec := "fnExactHasRiver", named := ["loop.example/g00886/impl.directionSteps"], apart := false, laid := [("loop.example/g00886/impl.directionSteps", laid_loop_example_g00886_impl_directionSteps)] }
def FnExactHasRiverSaid : Prop := fnExactHasRiverRow.holds Tryd.pinned (OpenSpec.ofChange fnExactHasRiverSpec)

/-- ITS FALSE NEIGHBOUR: 'it returns false'. Refute it at one input. -/
def fnExactHasRiverWrong : ChangeSpec := { name := "fnExactHasRiver", vars := ["loop.example/g00886/impl.directionSteps"], fn := fun _ => fun
  | [d1, d2, d3, g1] => { results := [.lit (.bool false)], args := [d1, d2, d3], vars := [g1] }
  | _ => none }
def FnExactHasRiverWrongFalsely : Prop := fnExactHasRiverRow.holds Tryd.pinned (OpenSpec.ofChange fnExactHasRiverWrong)

/-- 'laws.FnExactHasRoad': WHATEVER THE INPUT: true; the input reads as it did. -/
def fnExactHasRoadSpec : ChangeSpec := { name := "fnExactHasRoad", vars := ["loop.example/g00886/impl.directionSteps"], fn := fun _ => fun
  | [d1, d2, d3, g1] => { results := [.lit (.bool true)], args := [d1, d2, d3], vars := [g1] }
  | _ => none }
def fnExactHasRoadRow : OpenClaim := { program := "ytpfnljhnjembpaadoor", sum := "9c3dc744cf825278e88c61524d22e38ea6989a9550018313c2a90dc8e78af82b", func := "loop.example/g00886/laws.FnExactHasRoad", spec := "fnExactHasRoad", named := ["loop.example/g00886/impl.directionSteps"], apart := false, laid := [("loop.example/g00886/impl.directionSteps", laid_loop_example_g00886_impl_directionSteps)] }
def FnExactHasRoadSaid : Prop := fnExactHasRoadRow.holds Tryd.pinned (OpenSpec.ofChange fnExactHasRoadSpec)

/-- ITS FALSE NEIGHBOUR: 'it returns false'. Refute it at one input. -/
def fnExactHasRoadWrong : ChangeSpec := { name := "fnExactHasRoad", vars := ["loop.example/g00886/impl.directionSteps"], fn := fun _ => fun
  | [d1, d2, d3, g1] => { results := [.lit (.bool false)], args := [d1, d2, d3], vars := [g1] }
  | _ => none }
def FnExactHasRoadWrongFalsely : Prop := fnExactHasRoadRow.holds Tryd.pinned (OpenSpec.ofChange fnExactHasRoadWrong)

/-- 'laws.FnExactNearOn': WHATEVER THE INPUT: true; the input reads as it did. -/
def fnExactNearOnSpec : ChangeSpec := { name := "fnExactNearOn", vars := ["loop.example/g00886/impl.directionSteps"], fn := fun _ => fun
  | [d1, d2, d3, g1] => { results := [.lit (.bool true)], args := [d1, d2, d3], vars := [g1] }
  | _ => none }
def fnExactNearOnRow : OpenClaim := { program := "ytpfnljhnjembpaadoor", sum := "9c3dc744cf825278e88c61524d22e38ea6989a9550018313c2a90dc8e78af82b", func := "loop.example/g00886/laws.FnExactNearOn", spec := "fnExactNearOn", named := ["loop.example/g00886/impl.directionSteps"], apart := false, laid := [("loop.example/g00886/impl.directionSteps", laid_loop_example_g00886_impl_directionSteps)] }
def FnExactNearOnSaid : Prop := fnExactNearOnRow.holds Tryd.pinned (OpenSpec.ofChange fnExactNearOnSpec)

/-- ITS FALSE NEIGHBOUR: 'it returns false'. Refute it at one input. -/
def fnExactNearOnWrong : ChangeSpec := { name := "fnExactNearOn", vars := ["loop.example/g00886/impl.directionSteps"], fn := fun _ => fun
  | [d1, d2, d3, g1] => { results := [.lit (.bool false)], args := [d1, d2, d3], vars := [g1] }
  | _ => none }
def FnExactNearOnWrongFalsely : Prop := fnExactNearOnRow.holds Tryd.pinned (OpenSpec.ofChange fnExactNearOnWrong)

/-- 'laws.FnExactMirrorMap': WHATEVER THE INPUT: true; the input reads as it did. -/
def fnExactMirrorMapSpec : ChangeSpec := { name := "fnExactMirrorMap", vars := ["loop.example/g00886/impl.directionSteps"], fn := fun _ => fun
  | [d, g1] => { results := [.lit (.bool true)], args := [d], vars := [g1] }
  | _ => none }
def fnExactMirrorMapRow : OpenClaim := { program := "ytpfnljhnjembpaadoor", sum := "9c3dc744cf825278e88c61524d22e38ea6989a9550018313c2a90dc8e78af82b", func := "loop.example/g00886/laws.FnExactMirrorMap", spec := "fnExactMirrorMap", recurses := true, named := ["loop.example/g00886/impl.directionSteps"], apart := false, laid := [("loop.example/g00886/impl.directionSteps", laid_loop_example_g00886_impl_directionSteps)] }
def FnExactMirrorMapSaid : Prop := fnExactMirrorMapRow.holds Tryd.pinned (OpenSpec.ofChange fnExactMirrorMapSpec)

/-- ITS FALSE NEIGHBOUR: 'it returns false'. Refute it at one input. -/
def fnExactMirrorMapWrong : ChangeSpec := { name := "fnExactMirrorMap", vars := ["loop.example/g00886/impl.directionSteps"], fn := fun _ => fun
  | [d, g1] => { results := [.lit (.bool false)], args := [d], vars := [g1] }
  | _ => none }
def FnExactMirrorMapWrongFalsely : Prop := fnExactMirrorMapRow.holds Tryd.pinned (OpenSpec.ofChange fnExactMirrorMapWrong)

/- THE SECOND FORM. 'bulk': how many values and letters a reading holds, each counted each time it is reached (what is shared counts as often as it is met; a slice's spare places count too). A statement '..UptoSaid' is the law's where the arguments, and the package variables that the reading takes, are together of bulk at most 1048576: NARROWER than '..Said'. Prove '..Said' where nothing that the law and all that it calls make is longer than what came in: it says more and counts as full. Else prove '..UptoSaid'. A law counts once. -/
mutual
def uptoBulk {H : Type} : DataW H → Nat
  | .lit (.string bytes) => bytes.length + 1
  | .lit _ => 1
  | .nil => 1
  | .ptr d => uptoBulk d + 1
  | .slice elems spare => uptoBulkAll elems + uptoBulkAll spare + 1
  | .agg parts => uptoBulkAll parts + 1
  | .iface _ d => uptoBulk d + 1
  | .map entries => uptoBulkEntries entries + 1
  | .held _ => 1
def uptoBulkAll {H : Type} : List (DataW H) → Nat
  | [] => 0
  | d :: r => uptoBulk d + uptoBulkAll r
def uptoBulkEntries {H : Type} : List (Lit × DataW H) → Nat
  | [] => 0
  | x :: r => uptoBulkEntry x + uptoBulkEntries r
def uptoBulkEntry {H : Type} : Lit × DataW H → Nat
  | (.string bytes, d) => bytes.length + uptoBulk d + 1
  | (_, d) => uptoBulk d + 1
 end
def uptoSmall : (H : Type) → List (DataW H) → Bool := fun _ ds => decide (uptoBulkAll ds ≤ 1048576)
def OpenSpec.upto (s : _root_.Go.ChangeSpec) : _root_.Go.OpenSpec := { _root_.Go.OpenSpec.ofChange s with cond := some uptoSmall }

/-- 'laws.FnExactIsMap', WHERE WHAT IT READS IS OF BULK AT MOST 1048576: true; the input reads as it did. -/
def fnExactIsMapUptoRow : OpenClaim := { program := "ytpfnljhnjembpaadoor", sum := "9c3dc744cf825278e88c61524d22e38ea6989a9550018313c2a90dc8e78af82b", func := "loop.example/g00886/laws.FnExactIsMap", spec := "fnExactIsMap", named := ["loop.example/g00886/impl.directionSteps"], apart := false, laid := [("loop.example/g00886/impl.directionSteps", laid_loop_example_g00886_impl_directionSteps)], narrowed := true }
def FnExactIsMapUptoSaid : Prop := fnExactIsMapUptoRow.holds Tryd.pinned (OpenSpec.upto fnExactIsMapSpec)

/-- 'laws.FnExactIndexOf', WHERE WHAT IT READS IS OF BULK AT MOST 1048576: true; the input reads as it did. -/
def fnExactIndexOfUptoRow : OpenClaim := { program := "ytpfnljhnjembpaadoor", sum := "9c3dc744cf825278e88c61524d22e38ea6989a9550018313c2a90dc8e78af82b", func := "loop.example/g00886/laws.FnExactIndexOf", spec := "fnExactIndexOf", named := ["loop.example/g00886/impl.directionSteps"], apart := false, laid := [("loop.example/g00886/impl.directionSteps", laid_loop_example_g00886_impl_directionSteps)], narrowed := true }
def FnExactIndexOfUptoSaid : Prop := fnExactIndexOfUptoRow.holds Tryd.pinned (OpenSpec.upto fnExactIndexOfSpec)

/-- 'laws.FnExactHexAt', WHERE WHAT IT READS IS OF BULK AT MOST 1048576: true; the input reads as it did. -/
def fnExactHexAtUptoRow : OpenClaim := { program := "ytpfnljhnjembpaadoor", sum := "9c3dc744cf825278e88c61524d22e38ea6989a9550018313c2a90dc8e78af82b", func := "loop.example/g00886/laws.FnExactHexAt", spec := "fnExactHexAt", named := ["loop.example/g00886/impl.directionSteps"], apart := false, laid := [("loop.example/g00886/impl.directionSteps", laid_loop_example_g00886_impl_directionSteps)], narrowed := true }
def FnExactHexAtUptoSaid : Prop := fnExactHexAtUptoRow.holds Tryd.pinned (OpenSpec.upto fnExactHexAtSpec)

/-- 'laws.FnExactNextTo', WHERE WHAT IT READS IS OF BULK AT MOST 1048576: true; the input reads as it did. -/
def fnExactNextToUptoRow : OpenClaim := { program := "ytpfnljhnjembpaadoor", sum := "9c3dc744cf825278e88c61524d22e38ea6989a9550018313c2a90dc8e78af82b", func := "loop.example/g00886/laws.FnExactNextTo", spec := "fnExactNextTo", named := ["loop.example/g00886/impl.directionSteps"], apart := false, laid := [("loop.example/g00886/impl.directionSteps", laid_loop_example_g00886_impl_directionSteps)], narrowed := true }
def FnExactNextToUptoSaid : Prop := fnExactNextToUptoRow.holds Tryd.pinned (OpenSpec.upto fnExactNextToSpec)

/-- 'laws.FnExactEdgeOf', WHERE WHAT IT READS IS OF BULK AT MOST 1048576: true; the input reads as it did. -/
def fnExactEdgeOfUptoRow : OpenClaim := { program := "ytpfnljhnjembpaadoor", sum := "9c3dc744cf825278e88c61524d22e38ea6989a9550018313c2a90dc8e78af82b", func := "loop.example/g00886/laws.FnExactEdgeOf", spec := "fnExactEdgeOf", named := ["loop.example/g00886/impl.directionSteps"], apart := false, laid := [("loop.example/g00886/impl.directionSteps", laid_loop_example_g00886_impl_directionSteps)], narrowed := true }
def FnExactEdgeOfUptoSaid : Prop := fnExactEdgeOfUptoRow.holds Tryd.pinned (OpenSpec.upto fnExactEdgeOfSpec)

/-- 'laws.FnExactEndsOf', WHERE WHAT IT READS IS OF BULK AT MOST 1048576: true; the input reads as it did. -/
def fnExactEndsOfUptoRow : OpenClaim := { program := "ytpfnljhnjembpaadoor", sum := "9c3dc744cf825278e88c61524d22e38ea6989a9550018313c2a90dc8e78af82b", func := "loop.example/g00886/laws.FnExactEndsOf", spec := "fnExactEndsOf", named := ["loop.example/g00886/impl.directionSteps"], apart := false, laid := [("loop.example/g00886/impl.directionSteps", laid_loop_example_g00886_impl_directionSteps)], narrowed := true }
def FnExactEndsOfUptoSaid : Prop := fnExactEndsOfUptoRow.holds Tryd.pinned (OpenSpec.upto fnExactEndsOfSpec)

/-- 'laws.FnExactHasRiver', WHERE WHAT IT READS IS OF BULK AT MOST 1048576: true; the input reads as it did. -/
def fnExactHasRiverUptoRow : OpenClaim := { program := "ytpfnljhnjembpaadoor", sum := "9c3dc744cf825278e88c61524d22e38ea6989a9550018313c2a90dc8e78af82b", func := "loop.example/g00886/laws.FnExactHasRiver", spec := "fnExactHasRiver", named := ["loop.example/g00886/impl.directionSteps"], apart := false, laid := [("loop.example/g00886/impl.directionSteps", laid_loop_example_g00886_impl_directionSteps)], narrowed := true }
def FnExactHasRiverUptoSaid : Prop := fnExactHasRiverUptoRow.holds Tryd.pinned (OpenSpec.upto fnExactHasRiverSpec)

/-- 'laws.FnExactHasRoad', WHERE WHAT IT READS IS OF BULK AT MOST 1048576: true; the input reads as it did. -/
def fnExactHasRoadUptoRow : OpenClaim := { program := "ytpfnljhnjembpaadoor", sum := "9c3dc744cf825278e88c61524d22e38ea6989a9550018313c2a90dc8e78af82b", func := "loop.example/g00886/laws.FnExactHasRoad", spec := "fnExactHasRoad", named := ["loop.example/g00886/impl.directionSteps"], apart := false, laid := [("loop.example/g00886/impl.directionSteps", laid_loop_example_g00886_impl_directionSteps)], narrowed := true }
def FnExactHasRoadUptoSaid : Prop := fnExactHasRoadUptoRow.holds Tryd.pinned (OpenSpec.upto fnExactHasRoadSpec)

/-- 'laws.FnExactNearOn', WHERE WHAT IT READS IS OF BULK AT MOST 1048576: true; the input reads as it did. -/
def fnExactNearOnUptoRow : OpenClaim := { program := "ytpfnljhnjembpaadoor", sum := "9c3dc744cf825278e88c61524d22e38ea6989a9550018313c2a90dc8e78af82b", func := "loop.example/g00886/laws.FnExactNearOn", spec := "fnExactNearOn", named := ["loop.example/g00886/impl.directionSteps"], apart := false, laid := [("loop.example/g00886/impl.directionSteps", laid_loop_example_g00886_impl_directionSteps)], narrowed := true }
def FnExactNearOnUptoSaid : Prop := fnExactNearOnUptoRow.holds Tryd.pinned (OpenSpec.upto fnExactNearOnSpec)

/-- 'laws.FnExactMirrorMap', WHERE WHAT IT READS IS OF BULK AT MOST 1048576: true; the input reads as it did. -/
def fnExactMirrorMapUptoRow : OpenClaim := { program := "ytpfnljhnjembpaadoor", sum := "9c3dc744cf825278e88c61524d22e38ea6989a9550018313c2a90dc8e78af82b", func := "loop.example/g00886/laws.FnExactMirrorMap", spec := "fnExactMirrorMap", recurses := true, named := ["loop.example/g00886/impl.directionSteps"], apart := false, laid := [("loop.example/g00886/impl.directionSteps", laid_loop_example_g00886_impl_directionSteps)], narrowed := true }
def FnExactMirrorMapUptoSaid : Prop := fnExactMirrorMapUptoRow.holds Tryd.pinned (OpenSpec.upto fnExactMirrorMapSpec)

end Rows
end Go.Proofs.YtpfnljhnjembpaaDoor
