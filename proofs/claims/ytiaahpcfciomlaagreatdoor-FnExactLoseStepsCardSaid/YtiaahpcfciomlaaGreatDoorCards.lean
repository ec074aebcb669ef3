/-
  DERIVED. GIVEN WITH THE SEED: THE CARDS: each row of YtiaahpcfciomlaaGreatDoorRows.lean that lists a variable, with what it lists TIED to the program's text (the seventh form; the later family's looks); each row that meets fmt, with fmt's text TOLD by the authors' own Lean function (tested against real Go, not proved from fmt's source: count such statements apart). THE CARD IS WHAT COUNTS. Prove the row's statement (the work); the ties are given (YtiaahpcfciomlaaGreatDoorTie.lean); close each card by the builder's one call (the guide's Derived/Test/ToyasCard.lean, 'card_holds'). Laid BY PROGRAM, IN A SANDBOX (cutbox-door.mjs). By AI agents, Wed Nov 11 2026. No macro, syntax, notation, axiom, sorry.
-/
import Derived.Test.YtiaahpcfciomlaaGreatDoorRows
import GoSem.ClaimSeven
namespace Go.Proofs.YtiaahpcfciomlaaGreatDoor
namespace Rows

/-- THE TIED CARD OF 'laws.FnExactUnitsAt'. -/
def fnExactUnitsAtCard : Claim7 := { stood := { row := fnExactUnitsAtRow, standIns := [], harness := (true, "e26696077107c2cd4a161da9f1c4010acf4b24988b29ff0b0f7aa28a032dc973"), looks := false }, kinds := [], alts := [], laidByText := true, laidKinds := [.wider, .wider, .wider, .wider, .wider, .wider, .wider, .wider, .wider, .wider, .wider, .wider, .wider, .wider, .wider, .wider, .wider, .wider], laidTests := true, laidLooks := .later }
def FnExactUnitsAtCardSaid : Prop := Claim7.holds Tryz.pinned (.plain (OpenSpec.ofChange fnExactUnitsAtSpec)) fnExactUnitsAtCard

/-- THE TIED CARD OF 'laws.FnExactUnitsOf'. -/
def fnExactUnitsOfCard : Claim7 := { stood := { row := fnExactUnitsOfRow, standIns := [], harness := (true, "e26696077107c2cd4a161da9f1c4010acf4b24988b29ff0b0f7aa28a032dc973"), looks := false }, kinds := [], alts := [], laidByText := true, laidKinds := [.wider, .wider, .wider, .wider, .wider, .wider, .wider, .wider, .wider, .wider, .wider, .wider, .wider, .wider, .wider, .wider, .wider, .wider], laidTests := true, laidLooks := .later }
def FnExactUnitsOfCardSaid : Prop := Claim7.holds Tryz.pinned (.plain (OpenSpec.ofChange fnExactUnitsOfSpec)) fnExactUnitsOfCard

/-- THE TIED CARD OF 'laws.FnExactPlaceUnit'. -/
def fnExactPlaceUnitCard : Claim7 := { stood := { row := fnExactPlaceUnitRow, standIns := [], harness := (true, "e26696077107c2cd4a161da9f1c4010acf4b24988b29ff0b0f7aa28a032dc973"), looks := false }, kinds := [], alts := [], laidByText := true, laidKinds := [.wider, .wider, .wider, .wider, .wider, .wider, .wider, .wider, .wider, .wider, .wider, .wider, .wider, .wider, .wider, .wider, .wider, .wider], laidTests := true, laidLooks := .later }
def FnExactPlaceUnitCardSaid : Prop := Claim7.holds Tryz.pinned (.plain (OpenSpec.ofChange fnExactPlaceUnitSpec)) fnExactPlaceUnitCard

/-- THE TIED CARD OF 'laws.FnExactLoseSteps'. -/
def fnExactLoseStepsCard : Claim7 := { stood := { row := fnExactLoseStepsRow, standIns := [], harness := (true, "e26696077107c2cd4a161da9f1c4010acf4b24988b29ff0b0f7aa28a032dc973"), looks := false }, kinds := [], alts := [], laidByText := true, laidKinds := [.wider, .wider, .wider, .wider, .wider, .wider, .wider, .wider, .wider, .wider, .wider, .wider, .wider, .wider, .wider, .wider, .wider, .wider, .wider], laidTests := true, laidLooks := .later }
def FnExactLoseStepsCardSaid : Prop := Claim7.holds Tryz.pinned (.plain (OpenSpec.ofChange fnExactLoseStepsSpec)) fnExactLoseStepsCard

/-- THE TIED CARD OF 'laws.FnExactSwapSides'. -/
def fnExactSwapSidesCard : Claim7 := { stood := { row := fnExactSwapSidesRow, standIns := [], harness := (true, "e26696077107c2cd4a161da9f1c4010acf4b24988b29ff0b0f7aa28a032dc973"), looks := false }, kinds := [], alts := [], laidByText := true, laidKinds := [.wider, .wider, .wider, .wider, .wider, .wider, .wider, .wider, .wider, .wider, .wider, .wider, .wider, .wider, .wider, .wider, .wider, .wider], laidTests := true, laidLooks := .later }
def FnExactSwapSidesCardSaid : Prop := Claim7.holds Tryz.pinned (.plain (OpenSpec.ofChange fnExactSwapSidesSpec)) fnExactSwapSidesCard

/-- THE SECOND FORM's CARD OF 'laws.FnExactUnitsAt'. -/
def fnExactUnitsAtUptoCard : Claim7 := { stood := { row := fnExactUnitsAtUptoRow, standIns := [], harness := (true, "e26696077107c2cd4a161da9f1c4010acf4b24988b29ff0b0f7aa28a032dc973"), looks := false }, kinds := [], alts := [], laidByText := true, laidKinds := [.wider, .wider, .wider, .wider, .wider, .wider, .wider, .wider, .wider, .wider, .wider, .wider, .wider, .wider, .wider, .wider, .wider, .wider], laidTests := true, laidLooks := .later }
def FnExactUnitsAtUptoCardSaid : Prop := Claim7.holds Tryz.pinned (.plain (OpenSpec.upto fnExactUnitsAtSpec)) fnExactUnitsAtUptoCard

/-- THE SECOND FORM's CARD OF 'laws.FnExactUnitsOf'. -/
def fnExactUnitsOfUptoCard : Claim7 := { stood := { row := fnExactUnitsOfUptoRow, standIns := [], harness := (true, "e26696077107c2cd4a161da9f1c4010acf4b24988b29ff0b0f7aa28a032dc973"), looks := false }, kinds := [], alts := [], laidByText := true, laidKinds := [.wider, .wider, .wider, .wider, .wider, .wider, .wider, .wider, .wider, .wider, .wider, .wider, .wider, .wider, .wider, .wider, .wider, .wider], laidTests := true, laidLooks := .later }
def FnExactUnitsOfUptoCardSaid : Prop := Claim7.holds Tryz.pinned (.plain (OpenSpec.upto fnExactUnitsOfSpec)) fnExactUnitsOfUptoCard

/-- THE SECOND FORM's CARD OF 'laws.FnExactPlaceUnit'. -/
def fnExactPlaceUnitUptoCard : Claim7 := { stood := { row := fnExactPlaceUnitUptoRow, standIns := [], harness := (true, "e26696077107c2cd4a161da9f1c4010acf4b24988b29ff0b0f7aa28a032dc973"), looks := false }, kinds := [], alts := [], laidByText := true, laidKinds := [.wider, .wider, .wider, .wider, .wider, .wider, .wider, .wider, .wider, .wider, .wider, .wider, .wider, .wider, .wider, .wider, .wider, .wider], laidTests := true, laidLooks := .later }
def FnExactPlaceUnitUptoCardSaid : Prop := Claim7.holds Tryz.pinned (.plain (OpenSpec.upto fnExactPlaceUnitSpec)) fnExactPlaceUnitUptoCard

/-- THE SECOND FORM's CARD OF 'laws.FnExactLoseSteps'. -/
def fnExactLoseStepsUptoCard : Claim7 := { stood := { row := fnExactLoseStepsUptoRow, standIns := [], harness := (true, "e26696077107c2cd4a161da9f1c4010acf4b24988b29ff0b0f7aa28a032dc973"), looks := false }, kinds := [], alts := [], laidByText := true, laidKinds := [.wider, .wider, .wider, .wider, .wider, .wider, .wider, .wider, .wider, .wider, .wider, .wider, .wider, .wider, .wider, .wider, .wider, .wider, .wider], laidTests := true, laidLooks := .later }
def FnExactLoseStepsUptoCardSaid : Prop := Claim7.holds Tryz.pinned (.plain (OpenSpec.upto fnExactLoseStepsSpec)) fnExactLoseStepsUptoCard

/-- THE SECOND FORM's CARD OF 'laws.FnExactSwapSides'. -/
def fnExactSwapSidesUptoCard : Claim7 := { stood := { row := fnExactSwapSidesUptoRow, standIns := [], harness := (true, "e26696077107c2cd4a161da9f1c4010acf4b24988b29ff0b0f7aa28a032dc973"), looks := false }, kinds := [], alts := [], laidByText := true, laidKinds := [.wider, .wider, .wider, .wider, .wider, .wider, .wider, .wider, .wider, .wider, .wider, .wider, .wider, .wider, .wider, .wider, .wider, .wider], laidTests := true, laidLooks := .later }
def FnExactSwapSidesUptoCardSaid : Prop := Claim7.holds Tryz.pinned (.plain (OpenSpec.upto fnExactSwapSidesSpec)) fnExactSwapSidesUptoCard
end Rows
end Go.Proofs.YtiaahpcfciomlaaGreatDoor
