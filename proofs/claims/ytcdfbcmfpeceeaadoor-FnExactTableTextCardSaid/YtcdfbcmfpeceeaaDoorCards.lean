/-
  DERIVED. GIVEN WITH THE SEED: THE CARDS: each row of YtcdfbcmfpeceeaaDoorRows.lean that lists a variable, with what it lists TIED to the program's text (the seventh form; the later family's looks); each row that meets fmt, with fmt's text TOLD by the authors' own Lean function (tested against real Go, not proved from fmt's source: count such statements apart). THE CARD IS WHAT COUNTS. Prove the row's statement (the work); the ties are given (YtcdfbcmfpeceeaaDoorTie.lean); close each card by the builder's one call (the guide's Derived/Test/ToyasCard.lean, 'card_holds'). Laid BY PROGRAM, IN A SANDBOX (cutbox-door.mjs). By AI agents, Wed Nov 11 2026. No macro, syntax, notation, axiom, sorry.
-/
import Derived.Test.YtcdfbcmfpeceeaaDoorRows
import GoSem.ClaimSeven
namespace Go.Proofs.YtcdfbcmfpeceeaaDoor
namespace Rows

/-- THE TIED CARD OF 'laws.FnScores'. -/
def fnScoresCard : Claim7 := { stood := { row := fnScoresRow, standIns := [], harness := (true, "e436fb2f68258f075371c17f9a0a7fa9e8bf237512aa7bb52ede60e5d327d183"), looks := true }, kinds := [], alts := [], laidByText := true, laidKinds := [.data, .wider, .wider, .wider, .wider, .wider], laidTests := true, laidLooks := .later }
def FnScoresCardSaid : Prop := Claim7.holds Tryd.pinned (.plain (OpenSpec.ofChange fnScoresSpec)) fnScoresCard

/-- THE TIED CARD OF 'laws.FnExactMirrorMap'. -/
def fnExactMirrorMapCard : Claim7 := { stood := { row := fnExactMirrorMapRow, standIns := [], harness := (true, "e436fb2f68258f075371c17f9a0a7fa9e8bf237512aa7bb52ede60e5d327d183"), looks := true }, kinds := [], alts := [], laidByText := true, laidKinds := [.wider], laidTests := true, laidLooks := .later }
def FnExactMirrorMapCardSaid : Prop := Claim7.holds Tryd.pinned (.plain (OpenSpec.ofChange fnExactMirrorMapSpec)) fnExactMirrorMapCard

/-- THE TIED CARD OF 'laws.FnExactIsCombatTable'. -/
def fnExactIsCombatTableCard : Claim7 := { stood := { row := fnExactIsCombatTableRow, standIns := [], harness := (true, "e436fb2f68258f075371c17f9a0a7fa9e8bf237512aa7bb52ede60e5d327d183"), looks := true }, kinds := [], alts := [], laidByText := true, laidKinds := [.wider, .wider, .wider, .wider], laidTests := true, laidLooks := .later }
def FnExactIsCombatTableCardSaid : Prop := Claim7.holds Tryd.pinned (.plain (OpenSpec.ofChange fnExactIsCombatTableSpec)) fnExactIsCombatTableCard

/-- THE TIED CARD OF 'laws.FnExactColumnFor'. -/
def fnExactColumnForCard : Claim7 := { stood := { row := fnExactColumnForRow, standIns := [], harness := (true, "e436fb2f68258f075371c17f9a0a7fa9e8bf237512aa7bb52ede60e5d327d183"), looks := true }, kinds := [], alts := [], laidByText := true, laidKinds := [.wider, .wider, .wider, .wider, .wider], laidTests := true, laidLooks := .later }
def FnExactColumnForCardSaid : Prop := Claim7.holds Tryd.pinned (.plain (OpenSpec.ofChange fnExactColumnForSpec)) fnExactColumnForCard

/-- THE TIED CARD OF 'laws.FnExactShiftColumn'. -/
def fnExactShiftColumnCard : Claim7 := { stood := { row := fnExactShiftColumnRow, standIns := [], harness := (true, "e436fb2f68258f075371c17f9a0a7fa9e8bf237512aa7bb52ede60e5d327d183"), looks := true }, kinds := [], alts := [], laidByText := true, laidKinds := [.wider, .wider, .wider, .wider, .wider], laidTests := true, laidLooks := .later }
def FnExactShiftColumnCardSaid : Prop := Claim7.holds Tryd.pinned (.plain (OpenSpec.ofChange fnExactShiftColumnSpec)) fnExactShiftColumnCard

/-- THE TIED CARD OF 'laws.FnExactResultAt'. -/
def fnExactResultAtCard : Claim7 := { stood := { row := fnExactResultAtRow, standIns := [], harness := (true, "e436fb2f68258f075371c17f9a0a7fa9e8bf237512aa7bb52ede60e5d327d183"), looks := true }, kinds := [], alts := [], laidByText := true, laidKinds := [.wider, .wider, .wider, .wider], laidTests := true, laidLooks := .later }
def FnExactResultAtCardSaid : Prop := Claim7.holds Tryd.pinned (.plain (OpenSpec.ofChange fnExactResultAtSpec)) fnExactResultAtCard

/-- THE TIED CARD OF 'laws.FnExactScoreOf'. -/
def fnExactScoreOfCard : Claim7 := { stood := { row := fnExactScoreOfRow, standIns := [], harness := (true, "e436fb2f68258f075371c17f9a0a7fa9e8bf237512aa7bb52ede60e5d327d183"), looks := true }, kinds := [], alts := [], laidByText := true, laidKinds := [.data, .wider], laidTests := true, laidLooks := .later }
def FnExactScoreOfCardSaid : Prop := Claim7.holds Tryd.pinned (.plain (OpenSpec.ofChange fnExactScoreOfSpec)) fnExactScoreOfCard

/-- THE TIED CARD OF 'laws.FnExactIsMonotone'. -/
def fnExactIsMonotoneCard : Claim7 := { stood := { row := fnExactIsMonotoneRow, standIns := [], harness := (true, "e436fb2f68258f075371c17f9a0a7fa9e8bf237512aa7bb52ede60e5d327d183"), looks := true }, kinds := [], alts := [], laidByText := true, laidKinds := [.data, .wider, .wider, .wider, .wider], laidTests := true, laidLooks := .later }
def FnExactIsMonotoneCardSaid : Prop := Claim7.holds Tryd.pinned (.plain (OpenSpec.ofChange fnExactIsMonotoneSpec)) fnExactIsMonotoneCard

/-- THE TIED CARD OF 'laws.FnExactCountResults'. -/
def fnExactCountResultsCard : Claim7 := { stood := { row := fnExactCountResultsRow, standIns := [], harness := (true, "e436fb2f68258f075371c17f9a0a7fa9e8bf237512aa7bb52ede60e5d327d183"), looks := true }, kinds := [], alts := [], laidByText := true, laidKinds := [.wider, .wider, .wider, .wider], laidTests := true, laidLooks := .later }
def FnExactCountResultsCardSaid : Prop := Claim7.holds Tryd.pinned (.plain (OpenSpec.ofChange fnExactCountResultsSpec)) fnExactCountResultsCard

/-- THE TIED CARD OF 'laws.FnExactMeanScore'. -/
def fnExactMeanScoreCard : Claim7 := { stood := { row := fnExactMeanScoreRow, standIns := [], harness := (true, "e436fb2f68258f075371c17f9a0a7fa9e8bf237512aa7bb52ede60e5d327d183"), looks := true }, kinds := [], alts := [], laidByText := true, laidKinds := [.data, .wider, .wider, .wider, .wider], laidTests := true, laidLooks := .later }
def FnExactMeanScoreCardSaid : Prop := Claim7.holds Tryd.pinned (.plain (OpenSpec.ofChange fnExactMeanScoreSpec)) fnExactMeanScoreCard

/-- THE TIED CARD OF 'laws.FnExactTableText'. -/
def fnExactTableTextCard : Claim7 := { stood := { row := fnExactTableTextRow, standIns := [], harness := (true, "e436fb2f68258f075371c17f9a0a7fa9e8bf237512aa7bb52ede60e5d327d183"), looks := true }, kinds := [], alts := [], laidByText := true, laidKinds := [.data, .data, .data, .wider, .wider, .wider, .wider], laidTests := true, laidLooks := .later }
def FnExactTableTextCardSaid : Prop := Claim7.holds Tryd.pinned (.plain (OpenSpec.ofChange fnExactTableTextSpec)) fnExactTableTextCard

/-- THE TIED CARD OF 'laws.FnExactParseTable'. -/
def fnExactParseTableCard : Claim7 := { stood := { row := fnExactParseTableRow, standIns := [], harness := (true, "e436fb2f68258f075371c17f9a0a7fa9e8bf237512aa7bb52ede60e5d327d183"), looks := true }, kinds := [], alts := [], laidByText := true, laidKinds := [.data, .data, .data, .data, .sentinel, .sentinel, .wider, .wider, .wider, .wider, .pinned], laidTests := true, laidLooks := .later }
def FnExactParseTableCardSaid : Prop := Claim7.holds Tryd.pinned (.plain (OpenSpec.ofChange fnExactParseTableSpec)) fnExactParseTableCard

/-- THE SECOND FORM's CARD OF 'laws.FnScores'. -/
def fnScoresUptoCard : Claim7 := { stood := { row := fnScoresUptoRow, standIns := [], harness := (true, "e436fb2f68258f075371c17f9a0a7fa9e8bf237512aa7bb52ede60e5d327d183"), looks := true }, kinds := [], alts := [], laidByText := true, laidKinds := [.data, .wider, .wider, .wider, .wider, .wider], laidTests := true, laidLooks := .later }
def FnScoresUptoCardSaid : Prop := Claim7.holds Tryd.pinned (.plain (OpenSpec.upto fnScoresSpec)) fnScoresUptoCard

/-- THE SECOND FORM's CARD OF 'laws.FnExactMirrorMap'. -/
def fnExactMirrorMapUptoCard : Claim7 := { stood := { row := fnExactMirrorMapUptoRow, standIns := [], harness := (true, "e436fb2f68258f075371c17f9a0a7fa9e8bf237512aa7bb52ede60e5d327d183"), looks := true }, kinds := [], alts := [], laidByText := true, laidKinds := [.wider], laidTests := true, laidLooks := .later }
def FnExactMirrorMapUptoCardSaid : Prop := Claim7.holds Tryd.pinned (.plain (OpenSpec.upto fnExactMirrorMapSpec)) fnExactMirrorMapUptoCard

/-- THE SECOND FORM's CARD OF 'laws.FnExactIsCombatTable'. -/
def fnExactIsCombatTableUptoCard : Claim7 := { stood := { row := fnExactIsCombatTableUptoRow, standIns := [], harness := (true, "e436fb2f68258f075371c17f9a0a7fa9e8bf237512aa7bb52ede60e5d327d183"), looks := true }, kinds := [], alts := [], laidByText := true, laidKinds := [.wider, .wider, .wider, .wider], laidTests := true, laidLooks := .later }
def FnExactIsCombatTableUptoCardSaid : Prop := Claim7.holds Tryd.pinned (.plain (OpenSpec.upto fnExactIsCombatTableSpec)) fnExactIsCombatTableUptoCard

/-- THE SECOND FORM's CARD OF 'laws.FnExactColumnFor'. -/
def fnExactColumnForUptoCard : Claim7 := { stood := { row := fnExactColumnForUptoRow, standIns := [], harness := (true, "e436fb2f68258f075371c17f9a0a7fa9e8bf237512aa7bb52ede60e5d327d183"), looks := true }, kinds := [], alts := [], laidByText := true, laidKinds := [.wider, .wider, .wider, .wider, .wider], laidTests := true, laidLooks := .later }
def FnExactColumnForUptoCardSaid : Prop := Claim7.holds Tryd.pinned (.plain (OpenSpec.upto fnExactColumnForSpec)) fnExactColumnForUptoCard

/-- THE SECOND FORM's CARD OF 'laws.FnExactShiftColumn'. -/
def fnExactShiftColumnUptoCard : Claim7 := { stood := { row := fnExactShiftColumnUptoRow, standIns := [], harness := (true, "e436fb2f68258f075371c17f9a0a7fa9e8bf237512aa7bb52ede60e5d327d183"), looks := true }, kinds := [], alts := [], laidByText := true, laidKinds := [.wider, .wider, .wider, .wider, .wider], laidTests := true, laidLooks := .later }
def FnExactShiftColumnUptoCardSaid : Prop := Claim7.holds Tryd.pinned (.plain (OpenSpec.upto fnExactShiftColumnSpec)) fnExactShiftColumnUptoCard

/-- THE SECOND FORM's CARD OF 'laws.FnExactResultAt'. -/
def fnExactResultAtUptoCard : Claim7 := { stood := { row := fnExactResultAtUptoRow, standIns := [], harness := (true, "e436fb2f68258f075371c17f9a0a7fa9e8bf237512aa7bb52ede60e5d327d183"), looks := true }, kinds := [], alts := [], laidByText := true, laidKinds := [.wider, .wider, .wider, .wider], laidTests := true, laidLooks := .later }
def FnExactResultAtUptoCardSaid : Prop := Claim7.holds Tryd.pinned (.plain (OpenSpec.upto fnExactResultAtSpec)) fnExactResultAtUptoCard

/-- THE SECOND FORM's CARD OF 'laws.FnExactScoreOf'. -/
def fnExactScoreOfUptoCard : Claim7 := { stood := { row := fnExactScoreOfUptoRow, standIns := [], harness := (true, "e436fb2f68258f075371c17f9a0a7fa9e8bf237512aa7bb52ede60e5d327d183"), looks := true }, kinds := [], alts := [], laidByText := true, laidKinds := [.data, .wider], laidTests := true, laidLooks := .later }
def FnExactScoreOfUptoCardSaid : Prop := Claim7.holds Tryd.pinned (.plain (OpenSpec.upto fnExactScoreOfSpec)) fnExactScoreOfUptoCard

/-- THE SECOND FORM's CARD OF 'laws.FnExactIsMonotone'. -/
def fnExactIsMonotoneUptoCard : Claim7 := { stood := { row := fnExactIsMonotoneUptoRow, standIns := [], harness := (true, "e436fb2f68258f075371c17f9a0a7fa9e8bf237512aa7bb52ede60e5d327d183"), looks := true }, kinds := [], alts := [], laidByText := true, laidKinds := [.data, .wider, .wider, .wider, .wider], laidTests := true, laidLooks := .later }
def FnExactIsMonotoneUptoCardSaid : Prop := Claim7.holds Tryd.pinned (.plain (OpenSpec.upto fnExactIsMonotoneSpec)) fnExactIsMonotoneUptoCard

/-- THE SECOND FORM's CARD OF 'laws.FnExactCountResults'. -/
def fnExactCountResultsUptoCard : Claim7 := { stood := { row := fnExactCountResultsUptoRow, standIns := [], harness := (true, "e436fb2f68258f075371c17f9a0a7fa9e8bf237512aa7bb52ede60e5d327d183"), looks := true }, kinds := [], alts := [], laidByText := true, laidKinds := [.wider, .wider, .wider, .wider], laidTests := true, laidLooks := .later }
def FnExactCountResultsUptoCardSaid : Prop := Claim7.holds Tryd.pinned (.plain (OpenSpec.upto fnExactCountResultsSpec)) fnExactCountResultsUptoCard

/-- THE SECOND FORM's CARD OF 'laws.FnExactMeanScore'. -/
def fnExactMeanScoreUptoCard : Claim7 := { stood := { row := fnExactMeanScoreUptoRow, standIns := [], harness := (true, "e436fb2f68258f075371c17f9a0a7fa9e8bf237512aa7bb52ede60e5d327d183"), looks := true }, kinds := [], alts := [], laidByText := true, laidKinds := [.data, .wider, .wider, .wider, .wider], laidTests := true, laidLooks := .later }
def FnExactMeanScoreUptoCardSaid : Prop := Claim7.holds Tryd.pinned (.plain (OpenSpec.upto fnExactMeanScoreSpec)) fnExactMeanScoreUptoCard

/-- THE SECOND FORM's CARD OF 'laws.FnExactTableText'. -/
def fnExactTableTextUptoCard : Claim7 := { stood := { row := fnExactTableTextUptoRow, standIns := [], harness := (true, "e436fb2f68258f075371c17f9a0a7fa9e8bf237512aa7bb52ede60e5d327d183"), looks := true }, kinds := [], alts := [], laidByText := true, laidKinds := [.data, .data, .data, .wider, .wider, .wider, .wider], laidTests := true, laidLooks := .later }
def FnExactTableTextUptoCardSaid : Prop := Claim7.holds Tryd.pinned (.plain (OpenSpec.upto fnExactTableTextSpec)) fnExactTableTextUptoCard

/-- THE SECOND FORM's CARD OF 'laws.FnExactParseTable'. -/
def fnExactParseTableUptoCard : Claim7 := { stood := { row := fnExactParseTableUptoRow, standIns := [], harness := (true, "e436fb2f68258f075371c17f9a0a7fa9e8bf237512aa7bb52ede60e5d327d183"), looks := true }, kinds := [], alts := [], laidByText := true, laidKinds := [.data, .data, .data, .data, .sentinel, .sentinel, .wider, .wider, .wider, .wider, .pinned], laidTests := true, laidLooks := .later }
def FnExactParseTableUptoCardSaid : Prop := Claim7.holds Tryd.pinned (.plain (OpenSpec.upto fnExactParseTableSpec)) fnExactParseTableUptoCard
end Rows
end Go.Proofs.YtcdfbcmfpeceeaaDoor
