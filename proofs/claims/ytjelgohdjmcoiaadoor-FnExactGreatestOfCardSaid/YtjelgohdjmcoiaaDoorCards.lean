/-
  DERIVED. GIVEN WITH THE SEED: THE CARDS: each row of YtjelgohdjmcoiaaDoorRows.lean that lists a variable, with what it lists TIED to the program's text (the seventh form; the later family's looks); each row that meets fmt, with fmt's text TOLD by the authors' own Lean function (tested against real Go, not proved from fmt's source: count such statements apart). THE CARD IS WHAT COUNTS. Prove the row's statement (the work); the ties are given (YtjelgohdjmcoiaaDoorTie.lean); close each card by the builder's one call (the guide's Derived/Test/ToyasCard.lean, 'card_holds'). Laid BY PROGRAM, IN A SANDBOX (cutbox-door.mjs). By AI agents, Wed Nov 11 2026. No macro, syntax, notation, axiom, sorry.
-/
import Derived.Test.YtjelgohdjmcoiaaDoorRows
import GoSem.ClaimSeven
namespace Go.Proofs.YtjelgohdjmcoiaaDoor
namespace Rows

/-- THE TIED CARD OF 'laws.FnExactMixNumbers'. -/
def fnExactMixNumbersCard : Claim7 := { stood := { row := fnExactMixNumbersRow, standIns := [], harness := (true, "97b85b71b5336fdfd96dbd23392fb68bbcf69dbcdcef932ce3c91baa920c0616"), looks := false }, kinds := [], alts := [], laidByText := true, laidKinds := [.wider], laidTests := true, laidLooks := .later }
def FnExactMixNumbersCardSaid : Prop := Claim7.holds Tryd.pinned (.plain (OpenSpec.ofChange fnExactMixNumbersSpec)) fnExactMixNumbersCard

/-- THE TIED CARD OF 'laws.FnExactDieAt'. -/
def fnExactDieAtCard : Claim7 := { stood := { row := fnExactDieAtRow, standIns := [], harness := (true, "97b85b71b5336fdfd96dbd23392fb68bbcf69dbcdcef932ce3c91baa920c0616"), looks := false }, kinds := [], alts := [], laidByText := true, laidKinds := [.wider, .wider], laidTests := true, laidLooks := .later }
def FnExactDieAtCardSaid : Prop := Claim7.holds Tryd.pinned (.plain (OpenSpec.ofChange fnExactDieAtSpec)) fnExactDieAtCard

/-- THE TIED CARD OF 'laws.FnExactDiceFrom'. -/
def fnExactDiceFromCard : Claim7 := { stood := { row := fnExactDiceFromRow, standIns := [], harness := (true, "97b85b71b5336fdfd96dbd23392fb68bbcf69dbcdcef932ce3c91baa920c0616"), looks := false }, kinds := [], alts := [], laidByText := true, laidKinds := [.wider, .wider, .wider], laidTests := true, laidLooks := .later }
def FnExactDiceFromCardSaid : Prop := Claim7.holds Tryd.pinned (.plain (OpenSpec.ofChange fnExactDiceFromSpec)) fnExactDiceFromCard

/-- THE TIED CARD OF 'laws.FnExactNumberBelow'. -/
def fnExactNumberBelowCard : Claim7 := { stood := { row := fnExactNumberBelowRow, standIns := [], harness := (true, "97b85b71b5336fdfd96dbd23392fb68bbcf69dbcdcef932ce3c91baa920c0616"), looks := false }, kinds := [], alts := [], laidByText := true, laidKinds := [.wider, .wider, .wider], laidTests := true, laidLooks := .later }
def FnExactNumberBelowCardSaid : Prop := Claim7.holds Tryd.pinned (.plain (OpenSpec.ofChange fnExactNumberBelowSpec)) fnExactNumberBelowCard

/-- THE TIED CARD OF 'laws.FnExactShuffleBy'. -/
def fnExactShuffleByCard : Claim7 := { stood := { row := fnExactShuffleByRow, standIns := [], harness := (true, "97b85b71b5336fdfd96dbd23392fb68bbcf69dbcdcef932ce3c91baa920c0616"), looks := false }, kinds := [], alts := [], laidByText := true, laidKinds := [.wider, .wider, .wider, .wider], laidTests := true, laidLooks := .later }
def FnExactShuffleByCardSaid : Prop := Claim7.holds Tryd.pinned (.plain (OpenSpec.ofChange fnExactShuffleBySpec)) fnExactShuffleByCard

/-- THE TIED CARD OF 'laws.FnExactSumWays'. -/
def fnExactSumWaysCard : Claim7 := { stood := { row := fnExactSumWaysRow, standIns := [], harness := (true, "97b85b71b5336fdfd96dbd23392fb68bbcf69dbcdcef932ce3c91baa920c0616"), looks := false }, kinds := [], alts := [], laidByText := true, laidKinds := [.wider, .wider], laidTests := true, laidLooks := .later }
def FnExactSumWaysCardSaid : Prop := Claim7.holds Tryd.pinned (.plain (OpenSpec.ofChange fnExactSumWaysSpec)) fnExactSumWaysCard

/-- THE TIED CARD OF 'laws.FnExactWaysAtLeast'. -/
def fnExactWaysAtLeastCard : Claim7 := { stood := { row := fnExactWaysAtLeastRow, standIns := [], harness := (true, "97b85b71b5336fdfd96dbd23392fb68bbcf69dbcdcef932ce3c91baa920c0616"), looks := false }, kinds := [], alts := [], laidByText := true, laidKinds := [.wider, .wider], laidTests := true, laidLooks := .later }
def FnExactWaysAtLeastCardSaid : Prop := Claim7.holds Tryd.pinned (.plain (OpenSpec.ofChange fnExactWaysAtLeastSpec)) fnExactWaysAtLeastCard

/-- THE TIED CARD OF 'laws.FnExactFacesOf'. -/
def fnExactFacesOfCard : Claim7 := { stood := { row := fnExactFacesOfRow, standIns := [], harness := (true, "97b85b71b5336fdfd96dbd23392fb68bbcf69dbcdcef932ce3c91baa920c0616"), looks := false }, kinds := [], alts := [], laidByText := true, laidKinds := [.wider, .wider], laidTests := true, laidLooks := .later }
def FnExactFacesOfCardSaid : Prop := Claim7.holds Tryd.pinned (.plain (OpenSpec.ofChange fnExactFacesOfSpec)) fnExactFacesOfCard

/-- THE TIED CARD OF 'laws.FnExactGreatestOf'. -/
def fnExactGreatestOfCard : Claim7 := { stood := { row := fnExactGreatestOfRow, standIns := [], harness := (true, "97b85b71b5336fdfd96dbd23392fb68bbcf69dbcdcef932ce3c91baa920c0616"), looks := false }, kinds := [], alts := [], laidByText := true, laidKinds := [.wider, .wider], laidTests := true, laidLooks := .later }
def FnExactGreatestOfCardSaid : Prop := Claim7.holds Tryd.pinned (.plain (OpenSpec.ofChange fnExactGreatestOfSpec)) fnExactGreatestOfCard

/-- THE SECOND FORM's CARD OF 'laws.FnExactMixNumbers'. -/
def fnExactMixNumbersUptoCard : Claim7 := { stood := { row := fnExactMixNumbersUptoRow, standIns := [], harness := (true, "97b85b71b5336fdfd96dbd23392fb68bbcf69dbcdcef932ce3c91baa920c0616"), looks := false }, kinds := [], alts := [], laidByText := true, laidKinds := [.wider], laidTests := true, laidLooks := .later }
def FnExactMixNumbersUptoCardSaid : Prop := Claim7.holds Tryd.pinned (.plain (OpenSpec.upto fnExactMixNumbersSpec)) fnExactMixNumbersUptoCard

/-- THE SECOND FORM's CARD OF 'laws.FnExactDieAt'. -/
def fnExactDieAtUptoCard : Claim7 := { stood := { row := fnExactDieAtUptoRow, standIns := [], harness := (true, "97b85b71b5336fdfd96dbd23392fb68bbcf69dbcdcef932ce3c91baa920c0616"), looks := false }, kinds := [], alts := [], laidByText := true, laidKinds := [.wider, .wider], laidTests := true, laidLooks := .later }
def FnExactDieAtUptoCardSaid : Prop := Claim7.holds Tryd.pinned (.plain (OpenSpec.upto fnExactDieAtSpec)) fnExactDieAtUptoCard

/-- THE SECOND FORM's CARD OF 'laws.FnExactDiceFrom'. -/
def fnExactDiceFromUptoCard : Claim7 := { stood := { row := fnExactDiceFromUptoRow, standIns := [], harness := (true, "97b85b71b5336fdfd96dbd23392fb68bbcf69dbcdcef932ce3c91baa920c0616"), looks := false }, kinds := [], alts := [], laidByText := true, laidKinds := [.wider, .wider, .wider], laidTests := true, laidLooks := .later }
def FnExactDiceFromUptoCardSaid : Prop := Claim7.holds Tryd.pinned (.plain (OpenSpec.upto fnExactDiceFromSpec)) fnExactDiceFromUptoCard

/-- THE SECOND FORM's CARD OF 'laws.FnExactNumberBelow'. -/
def fnExactNumberBelowUptoCard : Claim7 := { stood := { row := fnExactNumberBelowUptoRow, standIns := [], harness := (true, "97b85b71b5336fdfd96dbd23392fb68bbcf69dbcdcef932ce3c91baa920c0616"), looks := false }, kinds := [], alts := [], laidByText := true, laidKinds := [.wider, .wider, .wider], laidTests := true, laidLooks := .later }
def FnExactNumberBelowUptoCardSaid : Prop := Claim7.holds Tryd.pinned (.plain (OpenSpec.upto fnExactNumberBelowSpec)) fnExactNumberBelowUptoCard

/-- THE SECOND FORM's CARD OF 'laws.FnExactShuffleBy'. -/
def fnExactShuffleByUptoCard : Claim7 := { stood := { row := fnExactShuffleByUptoRow, standIns := [], harness := (true, "97b85b71b5336fdfd96dbd23392fb68bbcf69dbcdcef932ce3c91baa920c0616"), looks := false }, kinds := [], alts := [], laidByText := true, laidKinds := [.wider, .wider, .wider, .wider], laidTests := true, laidLooks := .later }
def FnExactShuffleByUptoCardSaid : Prop := Claim7.holds Tryd.pinned (.plain (OpenSpec.upto fnExactShuffleBySpec)) fnExactShuffleByUptoCard

/-- THE SECOND FORM's CARD OF 'laws.FnExactSumWays'. -/
def fnExactSumWaysUptoCard : Claim7 := { stood := { row := fnExactSumWaysUptoRow, standIns := [], harness := (true, "97b85b71b5336fdfd96dbd23392fb68bbcf69dbcdcef932ce3c91baa920c0616"), looks := false }, kinds := [], alts := [], laidByText := true, laidKinds := [.wider, .wider], laidTests := true, laidLooks := .later }
def FnExactSumWaysUptoCardSaid : Prop := Claim7.holds Tryd.pinned (.plain (OpenSpec.upto fnExactSumWaysSpec)) fnExactSumWaysUptoCard

/-- THE SECOND FORM's CARD OF 'laws.FnExactWaysAtLeast'. -/
def fnExactWaysAtLeastUptoCard : Claim7 := { stood := { row := fnExactWaysAtLeastUptoRow, standIns := [], harness := (true, "97b85b71b5336fdfd96dbd23392fb68bbcf69dbcdcef932ce3c91baa920c0616"), looks := false }, kinds := [], alts := [], laidByText := true, laidKinds := [.wider, .wider], laidTests := true, laidLooks := .later }
def FnExactWaysAtLeastUptoCardSaid : Prop := Claim7.holds Tryd.pinned (.plain (OpenSpec.upto fnExactWaysAtLeastSpec)) fnExactWaysAtLeastUptoCard

/-- THE SECOND FORM's CARD OF 'laws.FnExactFacesOf'. -/
def fnExactFacesOfUptoCard : Claim7 := { stood := { row := fnExactFacesOfUptoRow, standIns := [], harness := (true, "97b85b71b5336fdfd96dbd23392fb68bbcf69dbcdcef932ce3c91baa920c0616"), looks := false }, kinds := [], alts := [], laidByText := true, laidKinds := [.wider, .wider], laidTests := true, laidLooks := .later }
def FnExactFacesOfUptoCardSaid : Prop := Claim7.holds Tryd.pinned (.plain (OpenSpec.upto fnExactFacesOfSpec)) fnExactFacesOfUptoCard

/-- THE SECOND FORM's CARD OF 'laws.FnExactGreatestOf'. -/
def fnExactGreatestOfUptoCard : Claim7 := { stood := { row := fnExactGreatestOfUptoRow, standIns := [], harness := (true, "97b85b71b5336fdfd96dbd23392fb68bbcf69dbcdcef932ce3c91baa920c0616"), looks := false }, kinds := [], alts := [], laidByText := true, laidKinds := [.wider, .wider], laidTests := true, laidLooks := .later }
def FnExactGreatestOfUptoCardSaid : Prop := Claim7.holds Tryd.pinned (.plain (OpenSpec.upto fnExactGreatestOfSpec)) fnExactGreatestOfUptoCard
end Rows
end Go.Proofs.YtjelgohdjmcoiaaDoor
