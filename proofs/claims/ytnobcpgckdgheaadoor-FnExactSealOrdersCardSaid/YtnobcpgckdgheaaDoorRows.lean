/-
  NARROWER THAN 'FOR EVERY INPUT', by the rows' own cells (each row's printed sentence says how): FnExactIsSealed: laid · FnExactSealOrders: laid · FnExactOpensTo: laid · FnExactFirstBadOpening: laid · FnExactJointSeed: laid · FnExactSealChain: laid · FnExactFirstBadSeal: laid.
  DERIVED. THE GIVEN ROWS OF THIS SEAT. 7 by the template 'for every input the law returns true; each argument reads behind the call as it read before'; 0 by the template 'total and deterministic' (their statements: YtnobcpgckdgheaaDoorTotals.lean).
  GIVEN WITH THE SEED: the statements are not yours to turn. If you find one false, say at which input.
  Laid BY PROGRAM, IN A SANDBOX (cutbox-rows.mjs): the forced cells as the released guide's own fill.sh prints them over the translation 6f16425951bb3412… (all of the seat's roots in one cut). By AI agents, Wed Nov 11 2026. No macro, syntax, notation, axiom, sorry.
-/
import Derived.Test.YtnobcpgckdgheaaDoorChecked
import GoSem.PinnedTables
import GoSem.Claim
import GoSem.ClaimJoined
import GoSem.ClaimMapViews
import Derived.JoinedTies
import Derived.KernelRfl
namespace Go.Proofs.YtnobcpgckdgheaaDoor
/- THE CELL 'sum', in the pinned program and in every row, IS THE sha256 OF THE DUMP (.gsa) THAT YtnobcpgckdgheaaDoorProg.lean LOADS. Nothing in Lean hashes anything: it is a label: what it is worth is what the hold of that sum in a sandbox is worth. -/
noncomputable def Tryd.pinned : Pinned := { name := "ytnobcpgckdgheaadoor", sum := "6f16425951bb3412850154f24d856fe6e619a5269c28a4db57dbb0c4db614e01", checked := Tryd.checked }
namespace Rows
def none {H : Type} : Left H := { results := [], args := [] }

/- WHAT THE LISTED PACKAGE-LEVEL VARIABLES READ AS WHEN THE CALL BEGINS. Each datum BY PROGRAM (the guide's laid-datum.mjs) off the statement by which the dump's own 'gosem.cut.vars' lays the variable. In a bare row this is a premise. The card (YtnobcpgckdgheaaDoorCards.lean) ties it to the program's text. -/
def laid_loop_example_g00886_impl_seedSpan {H : Type} : DataW H := .agg [.lit (.int .i64 0), .lit (.int .i64 4611686016279904236)]
def laid_loop_example_g00886_impl_sealTurnSpan {H : Type} : DataW H := .agg [.lit (.int .i64 0), .lit (.int .i64 30)]
def laid_loop_example_g00886_impl_sideSpan {H : Type} : DataW H := .agg [.lit (.int .i64 0), .lit (.int .i64 1)]
def laid_unicode_utf8_acceptRanges {H : Type} : DataW H := .agg [.agg [.lit (.int .u8 128), .lit (.int .u8 191)], .agg [.lit (.int .u8 160), .lit (.int .u8 191)], .agg [.lit (.int .u8 128), .lit (.int .u8 159)], .agg [.lit (.int .u8 144), .lit (.int .u8 191)], .agg [.lit (.int .u8 128), .lit (.int .u8 143)], .agg [.lit (.int .u8 0), .lit (.int .u8 0)], .agg [.lit (.int .u8 0), .lit (.int .u8 0)], .agg [.lit (.int .u8 0), .lit (.int .u8 0)], .agg [.lit (.int .u8 0), .lit (.int .u8 0)], .agg [.lit (.int .u8 0), .lit (.int .u8 0)], .agg [.lit (.int .u8 0), .lit (.int .u8 0)], .agg [.lit (.int .u8 0), .lit (.int .u8 0)], .agg [.lit (.int .u8 0), .lit (.int .u8 0)], .agg [.lit (.int .u8 0), .lit (.int .u8 0)], .agg [.lit (.int .u8 0), .lit (.int .u8 0)], .agg [.lit (.int .u8 0), .lit (.int .u8 0)]]
def laid_loop_example_g00886_impl_openedTextSpan {H : Type} : DataW H := .agg [.lit (.int .i64 0), .lit (.int .i64 150)]
/-- One of Go's own tables, pinned by name: the form's constant. -/
def laid_unicode_utf8_first : DataW Unit := Go.Pinned.utf8First
def laid_loop_example_g00886_impl_roundSpan {H : Type} : DataW H := .agg [.lit (.int .i64 0), .lit (.int .i64 4)]
def laid_loop_example_g00886_impl_mixedSpan {H : Type} : DataW H := .agg [.lit (.int .i64 0), .lit (.int .i64 200)]

/-- 'laws.FnExactIsSealed': WHATEVER THE INPUT: true; the input reads as it did. -/
def fnExactIsSealedSpec : ChangeSpec := { name := "fnExactIsSealed", vars := ["loop.example/g00886/impl.sealTurnSpan", "loop.example/g00886/impl.sideSpan", "loop.example/g00886/impl.seedSpan"], fn := fun _ => fun
  | [d, g1, g2, g3] => { results := [.lit (.bool true)], args := [d], vars := [g1, g2, g3] }
  | _ => none }
def fnExactIsSealedRow : OpenClaim := { program := "ytnobcpgckdgheaadoor", sum := "6f16425951bb3412850154f24d856fe6e619a5269c28a4db57dbb0c4db614e01", func := "loop.example/g00886/laws.FnExactIsSealed", spec := "fnExactIsSealed", named := ["loop.example/g00886/impl.sealTurnSpan", "loop.example/g00886/impl.sideSpan", "loop.example/g00886/impl.seedSpan"], apart := false, laid := [("loop.example/g00886/impl.seedSpan", laid_loop_example_g00886_impl_seedSpan), ("loop.example/g00886/impl.sealTurnSpan", laid_loop_example_g00886_impl_sealTurnSpan), ("loop.example/g00886/impl.sideSpan", laid_loop_example_g00886_impl_sideSpan)] }
def FnExactIsSealedSaid : Prop := fnExactIsSealedRow.holds Tryd.pinned (OpenSpec.ofChange fnExactIsSealedSpec)

/-- ITS FALSE NEIGHBOUR: 'it returns false'. Refute it at one input. -/
def fnExactIsSealedWrong : ChangeSpec := { name := "fnExactIsSealed", vars := ["loop.example/g00886/impl.sealTurnSpan", "loop.example/g00886/impl.sideSpan", "loop.example/g00886/impl.seedSpan"], fn := fun _ => fun
  | [d, g1, g2, g3] => { results := [.lit (.bool false)], args := [d], vars := [g1, g2, g3] }
  | _ => none }
def FnExactIsSealedWrongFalsely : Prop := fnExactIsSealedRow.holds Tryd.pinned (OpenSpec.ofChange fnExactIsSealedWrong)

/-- 'laws.FnExactSealOrders': WHATEVER THE INPUT: true; the input reads as it did. -/
def fnExactSealOrdersSpec : ChangeSpec := { name := "fnExactSealOrders", vars := ["loop.example/g00886/impl.sealTurnSpan", "loop.example/g00886/impl.sideSpan", "loop.example/g00886/impl.seedSpan", "loop.example/g00886/impl.openedTextSpan"], fn := fun _ => fun
  | [d1, d2, d3, g1, g2, g3, g4] => { results := [.lit (.bool true)], args := [d1, d2, d3], vars := [g1, g2, g3, g4] }
  | _ => none }
def fnExactSealOrdersRow : OpenClaim := { program := "ytnobcpgckdgheaadoor", sum := "6f16425951bb3412850154f24d856fe6e619a5269c28a4db57dbb0c4db614e01", func := "loop.example/g00886/laws.FnExactSealOrders", spec := "fnExactSealOrders", named := ["loop.example/g00886/impl.sealTurnSpan", "loop.example/g00886/impl.sideSpan", "loop.example/g00886/impl.seedSpan", "loop.example/g00886/impl.openedTextSpan", "unicode/utf8.first", "unicode/utf8.acceptRanges"], apart := false, laid := [("unicode/utf8.acceptRanges", laid_unicode_utf8_acceptRanges), ("loop.example/g00886/impl.seedSpan", laid_loop_example_g00886_impl_seedSpan), ("loop.example/g00886/impl.sealTurnSpan", laid_loop_example_g00886_impl_sealTurnSpan), ("loop.example/g00886/impl.openedTextSpan", laid_loop_example_g00886_impl_openedTextSpan), ("loop.example/g00886/impl.sideSpan", laid_loop_example_g00886_impl_sideSpan), ("unicode/utf8.first", laid_unicode_utf8_first)] }
def FnExactSealOrdersSaid : Prop := fnExactSealOrdersRow.holds Tryd.pinned (OpenSpec.ofChange fnExactSealOrdersSpec)

/-- ITS FALSE NEIGHBOUR: 'it returns false'. Refute it at one input. -/
def fnExactSealOrdersWrong : ChangeSpec := { name := "fnExactSealOrders", vars := ["loop.example/g00886/impl.sealTurnSpan", "loop.example/g00886/impl.sideSpan", "loop.example/g00886/impl.seedSpan", "loop.example/g00886/impl.openedTextSpan"], fn := fun _ => fun
  | [d1, d2, d3, g1, g2, g3, g4] => { results := [.lit (.bool false)], args := [d1, d2, d3], vars := [g1, g2, g3, g4] }
  | _ => none }
def FnExactSealOrdersWrongFalsely : Prop := fnExactSealOrdersRow.holds Tryd.pinned (OpenSpec.ofChange fnExactSealOrdersWrong)

/-- 'laws.FnExactOpensTo': WHATEVER THE INPUT: true; the input reads as it did. -/
def fnExactOpensToSpec : ChangeSpec := { name := "fnExactOpensTo", vars := ["loop.example/g00886/impl.sealTurnSpan", "loop.example/g00886/impl.sideSpan", "loop.example/g00886/impl.seedSpan", "loop.example/g00886/impl.openedTextSpan"], fn := fun _ => fun
  | [d1, d2, g1, g2, g3, g4] => { results := [.lit (.bool true)], args := [d1, d2], vars := [g1, g2, g3, g4] }
  | _ => none }
def fnExactOpensToRow : OpenClaim := { program := "ytnobcpgckdgheaadoor", sum := "6f16425951bb3412850154f24d856fe6e619a5269c28a4db57dbb0c4db614e01", func := "loop.example/g00886/laws.FnExactOpensTo", spec := "fnExactOpensTo", named := ["loop.example/g00886/impl.sealTurnSpan", "loop.example/g00886/impl.sideSpan", "loop.example/g00886/impl.seedSpan", "loop.example/g00886/impl.openedTextSpan", "unicode/utf8.first", "unicode/utf8.acceptRanges"], apart := false, laid := [("unicode/utf8.acceptRanges", laid_unicode_utf8_acceptRanges), ("loop.example/g00886/impl.seedSpan", laid_loop_example_g00886_impl_seedSpan), ("loop.example/g00886/impl.sealTurnSpan", laid_loop_example_g00886_impl_sealTurnSpan), ("loop.example/g00886/impl.openedTextSpan", laid_loop_example_g00886_impl_openedTextSpan), ("loop.example/g00886/impl.sideSpan", laid_loop_example_g00886_impl_sideSpan), ("unicode/utf8.first", laid_unicode_utf8_first)] }
def FnExactOpensToSaid : Prop := fnExactOpensToRow.holds Tryd.pinned (OpenSpec.ofChange fnExactOpensToSpec)

/-- ITS FALSE NEIGHBOUR: 'it returns false'. Refute it at one input. -/
def fnExactOpensToWrong : ChangeSpec := { name := "fnExactOpensTo", vars := ["loop.example/g00886/impl.sealTurnSpan", "loop.example/g00886/impl.sideSpan", "loop.example/g00886/impl.seedSpan", "loop.example/g00886/impl.openedTextSpan"], fn := fun _ => fun
  | [d1, d2, g1, g2, g3, g4] => { results := [.lit (.bool false)], args := [d1, d2], vars := [g1, g2, g3, g4] }
  | _ => none }
def FnExactOpensToWrongFalsely : Prop := fnExactOpensToRow.holds Tryd.pinned (OpenSpec.ofChange fnExactOpensToWrong)

/-- 'laws.FnExactFirstBadOpening': WHATEVER THE INPUT: true; the input reads as it did. -/
def fnExactFirstBadOpeningSpec : ChangeSpec := { name := "fnExactFirstBadOpening", vars := ["loop.example/g00886/impl.roundSpan", "loop.example/g00886/impl.sealTurnSpan", "loop.example/g00886/impl.sideSpan", "loop.example/g00886/impl.seedSpan", "loop.example/g00886/impl.openedTextSpan"], fn := fun _ => fun
  | [d1, d2, g1, g2, g3, g4, g5] => { results := [.lit (.bool true)], args := [d1, d2], vars := [g1, g2, g3, g4, g5] }
  | _ => none }
def fnExactFirstBadOpeningRow : OpenClaim := { program := "ytnobcpgckdgheaadoor", sum := "6f16425951bb3412850154f24d856fe6e619a5269c28a4db57dbb0c4db614e01", func := "loop.example/g00886/laws.FnExactFirstBadOpening", spec := "fnExactFirstBadOpening", unfollowed := true, recurses := true, named := ["loop.example/g00886/impl.roundSpan", "loop.example/g00886/impl.sealTurnSpan", "loop.example/g00886/impl.sideSpan", "loop.example/g00886/impl.seedSpan", "loop.example/g00886/impl.openedTextSpan", "unicode/utf8.first", "unicode/utf8.acceptRanges"], apart := false, laid := [("unicode/utf8.acceptRanges", laid_unicode_utf8_acceptRanges), ("loop.example/g00886/impl.seedSpan", laid_loop_example_g00886_impl_seedSpan), ("loop.example/g00886/impl.sealTurnSpan", laid_loop_example_g00886_impl_sealTurnSpan), ("loop.example/g00886/impl.roundSpan", laid_loop_example_g00886_impl_roundSpan), ("loop.example/g00886/impl.openedTextSpan", laid_loop_example_g00886_impl_openedTextSpan), ("loop.example/g00886/impl.sideSpan", laid_loop_example_g00886_impl_sideSpan), ("unicode/utf8.first", laid_unicode_utf8_first)] }
def FnExactFirstBadOpeningSaid : Prop := fnExactFirstBadOpeningRow.holds Tryd.pinned (OpenSpec.ofChange fnExactFirstBadOpeningSpec)

/-- ITS FALSE NEIGHBOUR: 'it returns false'. Refute it at one input. -/
def fnExactFirstBadOpeningWrong : ChangeSpec := { name := "fnExactFirstBadOpening", vars := ["loop.example/g00886/impl.roundSpan", "loop.example/g00886/impl.sealTurnSpan", "loop.example/g00886/impl.sideSpan", "loop.example/g00886/impl.seedSpan", "loop.example/g00886/impl.openedTextSpan"], fn := fun _ => fun
  | [d1, d2, g1, g2, g3, g4, g5] => { results := [.lit (.bool false)], args := [d1, d2], vars := [g1, g2, g3, g4, g5] }
  | _ => none }
def FnExactFirstBadOpeningWrongFalsely : Prop := fnExactFirstBadOpeningRow.holds Tryd.pinned (OpenSpec.ofChange fnExactFirstBadOpeningWrong)

/-- 'laws.FnExactJointSeed': WHATEVER THE INPUT: true; the input reads as it did. -/
def fnExactJointSeedSpec : ChangeSpec := { name := "fnExactJointSeed", vars := ["loop.example/g00886/impl.sealTurnSpan", "loop.example/g00886/impl.seedSpan", "loop.example/g00886/impl.roundSpan", "loop.example/g00886/impl.mixedSpan"], fn := fun _ => fun
  | [d1, d2, g1, g2, g3, g4] => { results := [.lit (.bool true)], args := [d1, d2], vars := [g1, g2, g3, g4] }
  | _ => none }
def fnExactJointSeedRow : OpenClaim := { program := "ytnobcpgckdgheaadoor", sum := "6f16425951bb3412850154f24d856fe6e619a5269c28a4db57dbb0c4db614e01", func := "loop.example/g00886/laws.FnExactJointSeed", spec := "fnExactJointSeed", unfollowed := true, recurses := true, named := ["loop.example/g00886/impl.sealTurnSpan", "loop.example/g00886/impl.seedSpan", "loop.example/g00886/impl.roundSpan", "loop.example/g00886/impl.mixedSpan"], apart := false, laid := [("loop.example/g00886/impl.mixedSpan", laid_loop_example_g00886_impl_mixedSpan), ("loop.example/g00886/impl.seedSpan", laid_loop_example_g00886_impl_seedSpan), ("loop.example/g00886/impl.sealTurnSpan", laid_loop_example_g00886_impl_sealTurnSpan), ("loop.example/g00886/impl.roundSpan", laid_loop_example_g00886_impl_roundSpan)] }
def FnExactJointSeedSaid : Prop := fnExactJointSeedRow.holds Tryd.pinned (OpenSpec.ofChange fnExactJointSeedSpec)

/-- ITS FALSE NEIGHBOUR: 'it returns false'. Refute it at one input. -/
def fnExactJointSeedWrong : ChangeSpec := { name := "fnExactJointSeed", vars := ["loop.example/g00886/impl.sealTurnSpan", "loop.example/g00886/impl.seedSpan", "loop.example/g00886/impl.roundSpan", "loop.example/g00886/impl.mixedSpan"], fn := fun _ => fun
  | [d1, d2, g1, g2, g3, g4] => { results := [.lit (.bool false)], args := [d1, d2], vars := [g1, g2, g3, g4] }
  | _ => none }
def FnExactJointSeedWrongFalsely : Prop := fnExactJointSeedRow.holds Tryd.pinned (OpenSpec.ofChange fnExactJointSeedWrong)

/-- 'laws.FnExactSealChain': WHATEVER THE INPUT: true; the input reads as it did. -/
def fnExactSealChainSpec : ChangeSpec := { name := "fnExactSealChain", vars := ["loop.example/g00886/impl.roundSpan", "loop.example/g00886/impl.sealTurnSpan", "loop.example/g00886/impl.sideSpan", "loop.example/g00886/impl.seedSpan"], fn := fun _ => fun
  | [d, g1, g2, g3, g4] => { results := [.lit (.bool true)], args := [d], vars := [g1, g2, g3, g4] }
  | _ => none }
def fnExactSealChainRow : OpenClaim := { program := "ytnobcpgckdgheaadoor", sum := "6f16425951bb3412850154f24d856fe6e619a5269c28a4db57dbb0c4db614e01", func := "loop.example/g00886/laws.FnExactSealChain", spec := "fnExactSealChain", unfollowed := true, recurses := true, named := ["loop.example/g00886/impl.roundSpan", "loop.example/g00886/impl.sealTurnSpan", "loop.example/g00886/impl.sideSpan", "loop.example/g00886/impl.seedSpan"], apart := false, laid := [("loop.example/g00886/impl.seedSpan", laid_loop_example_g00886_impl_seedSpan), ("loop.example/g00886/impl.sealTurnSpan", laid_loop_example_g00886_impl_sealTurnSpan), ("loop.example/g00886/impl.roundSpan", laid_loop_example_g00886_impl_roundSpan), ("loop.example/g00886/impl.sideSpan", laid_loop_example_g00886_impl_sideSpan)] }
def FnExactSealChainSaid : Prop := fnExactSealChainRow.holds Tryd.pinned (OpenSpec.ofChange fnExactSealChainSpec)

/-- ITS FALSE NEIGHBOUR: 'it returns false'. Refute it at one input. -/
def fnExactSealChainWrong : ChangeSpec := { name := "fnExactSealChain", vars := ["loop.example/g00886/impl.roundSpan", "loop.example/g00886/impl.sealTurnSpan", "loop.example/g00886/impl.sideSpan", "loop.example/g00886/impl.seedSpan"], fn := fun _ => fun
  | [d, g1, g2, g3, g4] => { results := [.lit (.bool false)], args := [d], vars := [g1, g2, g3, g4] }
  | _ => none }
def FnExactSealChainWrongFalsely : Prop := fnExactSealChainRow.holds Tryd.pinned (OpenSpec.ofChange fnExactSealChainWrong)

/-- 'laws.FnExactFirstBadSeal': WHATEVER THE INPUT: true; the input reads as it did. -/
def fnExactFirstBadSealSpec : ChangeSpec := { name := "fnExactFirstBadSeal", vars := ["loop.example/g00886/impl.roundSpan", "loop.example/g00886/impl.sealTurnSpan", "loop.example/g00886/impl.sideSpan", "loop.example/g00886/impl.seedSpan"], fn := fun _ => fun
  | [d1, d2, g1, g2, g3, g4] => { results := [.lit (.bool true)], args := [d1, d2], vars := [g1, g2, g3, g4] }
  | _ => none }
def fnExactFirstBadSealRow : OpenClaim := { program := "ytnobcpgckdgheaadoor", sum := "6f16425951bb3412850154f24d856fe6e619a5269c28a4db57dbb0c4db614e01", func := "loop.example/g00886/laws.FnExactFirstBadSeal", spec := "fnExactFirstBadSeal", unfollowed := true, recurses := true, named := ["loop.example/g00886/impl.roundSpan", "loop.example/g00886/impl.sealTurnSpan", "loop.example/g00886/impl.sideSpan", "loop.example/g00886/impl.seedSpan"], apart := false, laid := [("loop.example/g00886/impl.seedSpan", laid_loop_example_g00886_impl_seedSpan), ("loop.example/g00886/impl.sealTurnSpan", laid_loop_example_g00886_impl_sealTurnSpan), ("loop.example/g00886/impl.roundSpan", laid_loop_example_g00886_impl_roundSpan), ("loop.example/g00886/impl.sideSpan", laid_loop_example_g00886_impl_sideSpan)] }
def FnExactFirstBadSealSaid : Prop := fnExactFirstBadSealRow.holds Tryd.pinned (OpenSpec.ofChange fnExactFirstBadSealSpec)

/-- ITS FALSE NEIGHBOUR: 'it returns false'. Refute it at one input. -/
def fnExactFirstBadSealWrong : ChangeSpec := { name := "fnExactFirstBadSeal", vars := ["loop.example/g00886/impl.roundSpan", "loop.example/g00886/impl.sealTurnSpan", "loop.example/g00886/impl.sideSpan", "loop.example/g00886/impl.seedSpan"], fn := fun _ => fun
  | [d1, d2, g1, g2, g3, g4] => { results := [.lit (.bool false)], args := [d1, d2], vars := [g1, g2, g3, g4] }
  | _ => none }
def FnExactFirstBadSealWrongFalsely : Prop := fnExactFirstBadSealRow.holds Tryd.pinned (OpenSpec.ofChange fnExactFirstBadSealWrong)

/- THE SECOND FORM. 'bulk': how many values and letters a reading holds, each counted each time it is reached (what is shared counts as often as it is met; a slice's spare places count too). A statement '..UptoSaid' is the law's where the arguments, and the package variables that the reading takes, are together of bulk at most 1048576: NARROWER than '..Said'. Prove '..Said' where nothing that the law and all that it calls make is longer than what came in: it says more and counts as full. Else prove '..UptoSaid'. A law counts once. -/
mutual
def uptoBulk {H : Type} : DataW H → Nat
  | .lit (.string bytes) => bytes.length + 1
  | .lit _ => 1
  | .nil => 1
  | .ptr d => uptoBulk d + 1
  | .slice elems spare => uptoBulkAll elems + uptoBulkAll spare + 1
  | .agg parts => uptoBulkAll parts + 1
  | .iface _ d => uptoBulk d + 1
  | .map entries => uptoBulkEntries entries + 1
  | .held _ => 1
def uptoBulkAll {H : Type} : List (DataW H) → Nat
  | [] => 0
  | d :: r => uptoBulk d + uptoBulkAll r
def uptoBulkEntries {H : Type} : List (Lit × DataW H) → Nat
  | [] => 0
  | x :: r => uptoBulkEntry x + uptoBulkEntries r
def uptoBulkEntry {H : Type} : Lit × DataW H → Nat
  | (.string bytes, d) => bytes.length + uptoBulk d + 1
  | (_, d) => uptoBulk d + 1
 end
def uptoSmall : (H : Type) → List (DataW H) → Bool := fun _ ds => decide (uptoBulkAll ds ≤ 1048576)
def OpenSpec.upto (s : _root_.Go.ChangeSpec) : _root_.Go.OpenSpec := { _root_.Go.OpenSpec.ofChange s with cond := some uptoSmall }

/-- 'laws.FnExactIsSealed', WHERE WHAT IT READS IS OF BULK AT MOST 1048576: true; the input reads as it did. -/
def fnExactIsSealedUptoRow : OpenClaim := { program := "ytnobcpgckdgheaadoor", sum := "6f16425951bb3412850154f24d856fe6e619a5269c28a4db57dbb0c4db614e01", func := "loop.example/g00886/laws.FnExactIsSealed", spec := "fnExactIsSealed", named := ["loop.example/g00886/impl.sealTurnSpan", "loop.example/g00886/impl.sideSpan", "loop.example/g00886/impl.seedSpan"], apart := false, laid := [("loop.example/g00886/impl.seedSpan", laid_loop_example_g00886_impl_seedSpan), ("loop.example/g00886/impl.sealTurnSpan", laid_loop_example_g00886_impl_sealTurnSpan), ("loop.example/g00886/impl.sideSpan", laid_loop_example_g00886_impl_sideSpan)], narrowed := true }
def FnExactIsSealedUptoSaid : Prop := fnExactIsSealedUptoRow.holds Tryd.pinned (OpenSpec.upto fnExactIsSealedSpec)

/-- 'laws.FnExactSealOrders', WHERE WHAT IT READS IS OF BULK AT MOST 1048576: true; the input reads as it did. -/
def fnExactSealOrdersUptoRow : OpenClaim := { program := "ytnobcpgckdgheaadoor", sum := "6f16425951bb3412850154f24d856fe6e619a5269c28a4db57dbb0c4db614e01", func := "loop.example/g00886/laws.FnExactSealOrders", spec := "fnExactSealOrders", named := ["loop.example/g00886/impl.sealTurnSpan", "loop.example/g00886/impl.sideSpan", "loop.example/g00886/impl.seedSpan", "loop.example/g00886/impl.openedTextSpan", "unicode/utf8.first", "unicode/utf8.acceptRanges"], apart := false, laid := [("unicode/utf8.acceptRanges", laid_unicode_utf8_acceptRanges), ("loop.example/g00886/impl.seedSpan", laid_loop_example_g00886_impl_seedSpan), ("loop.example/g00886/impl.sealTurnSpan", laid_loop_example_g00886_impl_sealTurnSpan), ("loop.example/g00886/impl.openedTextSpan", laid_loop_example_g00886_impl_openedTextSpan), ("loop.example/g00886/impl.sideSpan", laid_loop_example_g00886_impl_sideSpan), ("unicode/utf8.first", laid_unicode_utf8_first)], narrowed := true }
def FnExactSealOrdersUptoSaid : Prop := fnExactSealOrdersUptoRow.holds Tryd.pinned (OpenSpec.upto fnExactSealOrdersSpec)

/-- 'laws.FnExactOpensTo', WHERE WHAT IT READS IS OF BULK AT MOST 1048576: true; the input reads as it did. -/
def fnExactOpensToUptoRow : OpenClaim := { program := "ytnobcpgckdgheaadoor", sum := "6f16425951bb3412850154f24d856fe6e619a5269c28a4db57dbb0c4db614e01", func := "loop.example/g00886/laws.FnExactOpensTo", spec := "fnExactOpensTo", named := ["loop.example/g00886/impl.sealTurnSpan", "loop.example/g00886/impl.sideSpan", "loop.example/g00886/impl.seedSpan", "loop.example/g00886/impl.openedTextSpan", "unicode/utf8.first", "unicode/utf8.acceptRanges"], apart := false, laid := [("unicode/utf8.acceptRanges", laid_unicode_utf8_acceptRanges), ("loop.example/g00886/impl.seedSpan", laid_loop_example_g00886_impl_seedSpan), ("loop.example/g00886/impl.sealTurnSpan", laid_loop_example_g00886_impl_sealTurnSpan), ("loop.example/g00886/impl.openedTextSpan", laid_loop_example_g00886_impl_openedTextSpan), ("loop.example/g00886/impl.sideSpan", laid_loop_example_g00886_impl_sideSpan), ("unicode/utf8.first", laid_unicode_utf8_first)], narrowed := true }
def FnExactOpensToUptoSaid : Prop := fnExactOpensToUptoRow.holds Tryd.pinned (OpenSpec.upto fnExactOpensToSpec)

/-- 'laws.FnExactFirstBadOpening', WHERE WHAT IT READS IS OF BULK AT MOST 1048576: true; the input reads as it did. -/
def fnExactFirstBadOpeningUptoRow : OpenClaim := { program := "ytnobcpgckdgheaadoor", sum := "6f16425951bb3412850154f24d856fe6e619a5269c28a4db57dbb0c4db614e01", func := "loop.example/g00886/laws.FnExactFirstBadOpening", spec := "fnExactFirstBadOpening", unfollowed := true, recurses := true, named := ["loop.example/g00886/impl.roundSpan", "loop.example/g00886/impl.sealTurnSpan", "loop.example/g00886/impl.sideSpan", "loop.example/g00886/impl.seedSpan", "loop.example/g00886/impl.openedTextSpan", "unicode/utf8.first", "unicode/utf8.acceptRanges"], apart := false, laid := [("unicode/utf8.acceptRanges", laid_unicode_utf8_acceptRanges), ("loop.example/g00886/impl.seedSpan", laid_loop_example_g00886_impl_seedSpan), ("loop.example/g00886/impl.sealTurnSpan", laid_loop_example_g00886_impl_sealTurnSpan), ("loop.example/g00886/impl.roundSpan", laid_loop_example_g00886_impl_roundSpan), ("loop.example/g00886/impl.openedTextSpan", laid_loop_example_g00886_impl_openedTextSpan), ("loop.example/g00886/impl.sideSpan", laid_loop_example_g00886_impl_sideSpan), ("unicode/utf8.first", laid_unicode_utf8_first)], narrowed := true }
def FnExactFirstBadOpeningUptoSaid : Prop := fnExactFirstBadOpeningUptoRow.holds Tryd.pinned (OpenSpec.upto fnExactFirstBadOpeningSpec)

/-- 'laws.FnExactJointSeed', WHERE WHAT IT READS IS OF BULK AT MOST 1048576: true; the input reads as it did. -/
def fnExactJointSeedUptoRow : OpenClaim := { program := "ytnobcpgckdgheaadoor", sum := "6f16425951bb3412850154f24d856fe6e619a5269c28a4db57dbb0c4db614e01", func := "loop.example/g00886/laws.FnExactJointSeed", spec := "fnExactJointSeed", unfollowed := true, recurses := true, named := ["loop.example/g00886/impl.sealTurnSpan", "loop.example/g00886/impl.seedSpan", "loop.example/g00886/impl.roundSpan", "loop.example/g00886/impl.mixedSpan"], apart := false, laid := [("loop.example/g00886/impl.mixedSpan", laid_loop_example_g00886_impl_mixedSpan), ("loop.example/g00886/impl.seedSpan", laid_loop_example_g00886_impl_seedSpan), ("loop.example/g00886/impl.sealTurnSpan", laid_loop_example_g00886_impl_sealTurnSpan), ("loop.example/g00886/impl.roundSpan", laid_loop_example_g00886_impl_roundSpan)], narrowed := true }
def FnExactJointSeedUptoSaid : Prop := fnExactJointSeedUptoRow.holds Tryd.pinned (OpenSpec.upto fnExactJointSeedSpec)

/-- 'laws.FnExactSealChain', WHERE WHAT IT READS IS OF BULK AT MOST 1048576: true; the input reads as it did. -/
def fnExactSealChainUptoRow : OpenClaim := { program := "ytnobcpgckdgheaadoor", sum := "6f16425951bb3412850154f24d856fe6e619a5269c28a4db57dbb0c4db614e01", func := "loop.example/g00886/laws.FnExactSealChain", spec := "fnExactSealChain", unfollowed := true, recurses := true, named := ["loop.example/g00886/impl.roundSpan", "loop.example/g00886/impl.sealTurnSpan", "loop.example/g00886/impl.sideSpan", "loop.example/g00886/impl.seedSpan"], apart := false, laid := [("loop.example/g00886/impl.seedSpan", laid_loop_example_g00886_impl_seedSpan), ("loop.example/g00886/impl.sealTurnSpan", laid_loop_example_g00886_impl_sealTurnSpan), ("loop.example/g00886/impl.roundSpan", laid_loop_example_g00886_impl_roundSpan), ("loop.example/g00886/impl.sideSpan", laid_loop_example_g00886_impl_sideSpan)], narrowed := true }
def FnExactSealChainUptoSaid : Prop := fnExactSealChainUptoRow.holds Tryd.pinned (OpenSpec.upto fnExactSealChainSpec)

/-- 'laws.FnExactFirstBadSeal', WHERE WHAT IT READS IS OF BULK AT MOST 1048576: true; the input reads as it did. -/
def fnExactFirstBadSealUptoRow : OpenClaim := { program := "ytnobcpgckdgheaadoor", sum := "6f16425951bb3412850154f24d856fe6e619a5269c28a4db57dbb0c4db614e01", func := "loop.example/g00886/laws.FnExactFirstBadSeal", spec := "fnExactFirstBadSeal", unfollowed := true, recurses := true, named := ["loop.example/g00886/impl.roundSpan", "loop.example/g00886/impl.sealTurnSpan", "loop.example/g00886/impl.sideSpan", "loop.example/g00886/impl.seedSpan"], apart := false, laid := [("loop.example/g00886/impl.seedSpan", laid_loop_example_g00886_impl_seedSpan), ("loop.example/g00886/impl.sealTurnSpan", laid_loop_example_g00886_impl_sealTurnSpan), ("loop.example/g00886/impl.roundSpan", laid_loop_example_g00886_impl_roundSpan), ("loop.example/g00886/impl.sideSpan", laid_loop_example_g00886_impl_sideSpan)], narrowed := true }
def FnExactFirstBadSealUptoSaid : Prop := fnExactFirstBadSealUptoRow.holds Tryd.pinned (OpenSpec.upto fnExactFirstBadSealSpec)

end Rows
end Go.Proofs.YtnobcpgckdgheaaDoor
