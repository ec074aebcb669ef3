/-
  DERIVED. GIVEN WITH THE SEED: THE CARDS: each row of YtkkcnofplddbmaaDoorRows.lean that lists a variable, with what it lists TIED to the program's text (the seventh form; the later family's looks); each row that meets fmt, with fmt's text TOLD by the authors' own Lean function (tested against real Go, not proved from fmt's source: count such statements apart). THE CARD IS WHAT COUNTS. Prove the row's statement (the work); the ties are given (YtkkcnofplddbmaaDoorTie.lean); close each card by the builder's one call (the guide's Derived/Test/ToyasCard.lean, 'card_holds'). Laid BY PROGRAM, IN A SANDBOX (cutbox-door.mjs). By AI agents, Wed Nov 11 2026. No macro, syntax, notation, axiom, sorry.
-/
import Derived.Test.YtkkcnofplddbmaaDoorRows
import GoSem.ClaimSeven
namespace Go.Proofs.YtkkcnofplddbmaaDoor
namespace Rows

/-- THE TIED CARD OF 'laws.FnExactIsRules'. -/
def fnExactIsRulesCard : Claim7 := { stood := { row := fnExactIsRulesRow, standIns := [], harness := (true, "c1ad321ac725c7ee1c4c251dd0bcceef73cf7234d2c1eb481cdcbd206ab7ed09"), looks := false }, kinds := [], alts := [], laidByText := true, laidKinds := [.wider, .wider, .wider, .wider, .wider, .wider, .wider, .wider, .wider, .wider, .wider, .wider, .wider, .wider], laidTests := true, laidLooks := .later }
def FnExactIsRulesCardSaid : Prop := Claim7.holds Tryd.pinned (.plain (OpenSpec.ofChange fnExactIsRulesSpec)) fnExactIsRulesCard

/-- THE TIED CARD OF 'laws.FnExactIsBoard'. -/
def fnExactIsBoardCard : Claim7 := { stood := { row := fnExactIsBoardRow, standIns := [], harness := (true, "c1ad321ac725c7ee1c4c251dd0bcceef73cf7234d2c1eb481cdcbd206ab7ed09"), looks := false }, kinds := [], alts := [], laidByText := true, laidKinds := [.wider, .wider, .wider, .wider, .wider, .wider, .wider, .wider, .wider, .wider, .wider, .wider, .wider, .wider, .wider], laidTests := true, laidLooks := .later }
def FnExactIsBoardCardSaid : Prop := Claim7.holds Tryd.pinned (.plain (OpenSpec.ofChange fnExactIsBoardSpec)) fnExactIsBoardCard

/-- THE TIED CARD OF 'laws.FnExactTerrainNamed'. -/
def fnExactTerrainNamedCard : Claim7 := { stood := { row := fnExactTerrainNamedRow, standIns := [], harness := (true, "c1ad321ac725c7ee1c4c251dd0bcceef73cf7234d2c1eb481cdcbd206ab7ed09"), looks := false }, kinds := [], alts := [], laidByText := true, laidKinds := [.wider, .wider, .wider, .wider, .wider, .wider, .wider, .wider, .wider, .wider, .wider, .wider, .wider, .wider], laidTests := true, laidLooks := .later }
def FnExactTerrainNamedCardSaid : Prop := Claim7.holds Tryd.pinned (.plain (OpenSpec.ofChange fnExactTerrainNamedSpec)) fnExactTerrainNamedCard

/-- THE TIED CARD OF 'laws.FnExactKindNamed'. -/
def fnExactKindNamedCard : Claim7 := { stood := { row := fnExactKindNamedRow, standIns := [], harness := (true, "c1ad321ac725c7ee1c4c251dd0bcceef73cf7234d2c1eb481cdcbd206ab7ed09"), looks := false }, kinds := [], alts := [], laidByText := true, laidKinds := [.wider, .wider, .wider, .wider, .wider, .wider, .wider, .wider, .wider, .wider, .wider, .wider, .wider, .wider], laidTests := true, laidLooks := .later }
def FnExactKindNamedCardSaid : Prop := Claim7.holds Tryd.pinned (.plain (OpenSpec.ofChange fnExactKindNamedSpec)) fnExactKindNamedCard

/-- THE TIED CARD OF 'laws.FnExactEnterCost'. -/
def fnExactEnterCostCard : Claim7 := { stood := { row := fnExactEnterCostRow, standIns := [], harness := (true, "c1ad321ac725c7ee1c4c251dd0bcceef73cf7234d2c1eb481cdcbd206ab7ed09"), looks := false }, kinds := [], alts := [], laidByText := true, laidKinds := [.wider, .wider, .wider, .wider, .wider, .wider, .wider, .wider, .wider, .wider, .wider, .wider, .wider, .wider, .wider], laidTests := true, laidLooks := .later }
def FnExactEnterCostCardSaid : Prop := Claim7.holds Tryd.pinned (.plain (OpenSpec.ofChange fnExactEnterCostSpec)) fnExactEnterCostCard

/-- THE TIED CARD OF 'laws.FnExactOpenHexes'. -/
def fnExactOpenHexesCard : Claim7 := { stood := { row := fnExactOpenHexesRow, standIns := [], harness := (true, "c1ad321ac725c7ee1c4c251dd0bcceef73cf7234d2c1eb481cdcbd206ab7ed09"), looks := false }, kinds := [], alts := [], laidByText := true, laidKinds := [.wider, .wider, .wider, .wider, .wider, .wider, .wider, .wider, .wider, .wider, .wider, .wider, .wider, .wider, .wider], laidTests := true, laidLooks := .later }
def FnExactOpenHexesCardSaid : Prop := Claim7.holds Tryd.pinned (.plain (OpenSpec.ofChange fnExactOpenHexesSpec)) fnExactOpenHexesCard

/-- THE TIED CARD OF 'laws.FnExactStuckKinds'. -/
def fnExactStuckKindsCard : Claim7 := { stood := { row := fnExactStuckKindsRow, standIns := [], harness := (true, "c1ad321ac725c7ee1c4c251dd0bcceef73cf7234d2c1eb481cdcbd206ab7ed09"), looks := false }, kinds := [], alts := [], laidByText := true, laidKinds := [.wider, .wider, .wider, .wider, .wider, .wider, .wider, .wider, .wider, .wider, .wider, .wider, .wider, .wider, .wider], laidTests := true, laidLooks := .later }
def FnExactStuckKindsCardSaid : Prop := Claim7.holds Tryd.pinned (.plain (OpenSpec.ofChange fnExactStuckKindsSpec)) fnExactStuckKindsCard

/-- THE TIED CARD OF 'laws.FnExactUnusedTerrains'. -/
def fnExactUnusedTerrainsCard : Claim7 := { stood := { row := fnExactUnusedTerrainsRow, standIns := [], harness := (true, "c1ad321ac725c7ee1c4c251dd0bcceef73cf7234d2c1eb481cdcbd206ab7ed09"), looks := false }, kinds := [], alts := [], laidByText := true, laidKinds := [.wider, .wider, .wider, .wider, .wider, .wider, .wider, .wider, .wider, .wider, .wider, .wider, .wider, .wider, .wider], laidTests := true, laidLooks := .later }
def FnExactUnusedTerrainsCardSaid : Prop := Claim7.holds Tryd.pinned (.plain (OpenSpec.ofChange fnExactUnusedTerrainsSpec)) fnExactUnusedTerrainsCard

/-- THE TIED CARD OF 'laws.FnExactMissingTerrains'. -/
def fnExactMissingTerrainsCard : Claim7 := { stood := { row := fnExactMissingTerrainsRow, standIns := [], harness := (true, "c1ad321ac725c7ee1c4c251dd0bcceef73cf7234d2c1eb481cdcbd206ab7ed09"), looks := false }, kinds := [], alts := [], laidByText := true, laidKinds := [.wider, .wider, .wider, .wider, .wider, .wider, .wider, .wider, .wider, .wider, .wider, .wider, .wider, .wider, .wider], laidTests := true, laidLooks := .later }
def FnExactMissingTerrainsCardSaid : Prop := Claim7.holds Tryd.pinned (.plain (OpenSpec.ofChange fnExactMissingTerrainsSpec)) fnExactMissingTerrainsCard

/-- THE TIED CARD OF 'laws.FnExactMirrorMap'. -/
def fnExactMirrorMapCard : Claim7 := { stood := { row := fnExactMirrorMapRow, standIns := [], harness := (true, "c1ad321ac725c7ee1c4c251dd0bcceef73cf7234d2c1eb481cdcbd206ab7ed09"), looks := false }, kinds := [], alts := [], laidByText := true, laidKinds := [.wider], laidTests := true, laidLooks := .later }
def FnExactMirrorMapCardSaid : Prop := Claim7.holds Tryd.pinned (.plain (OpenSpec.ofChange fnExactMirrorMapSpec)) fnExactMirrorMapCard

/-- THE SECOND FORM's CARD OF 'laws.FnExactIsRules'. -/
def fnExactIsRulesUptoCard : Claim7 := { stood := { row := fnExactIsRulesUptoRow, standIns := [], harness := (true, "c1ad321ac725c7ee1c4c251dd0bcceef73cf7234d2c1eb481cdcbd206ab7ed09"), looks := false }, kinds := [], alts := [], laidByText := true, laidKinds := [.wider, .wider, .wider, .wider, .wider, .wider, .wider, .wider, .wider, .wider, .wider, .wider, .wider, .wider], laidTests := true, laidLooks := .later }
def FnExactIsRulesUptoCardSaid : Prop := Claim7.holds Tryd.pinned (.plain (OpenSpec.upto fnExactIsRulesSpec)) fnExactIsRulesUptoCard

/-- THE SECOND FORM's CARD OF 'laws.FnExactIsBoard'. -/
def fnExactIsBoardUptoCard : Claim7 := { stood := { row := fnExactIsBoardUptoRow, standIns := [], harness := (true, "c1ad321ac725c7ee1c4c251dd0bcceef73cf7234d2c1eb481cdcbd206ab7ed09"), looks := false }, kinds := [], alts := [], laidByText := true, laidKinds := [.wider, .wider, .wider, .wider, .wider, .wider, .wider, .wider, .wider, .wider, .wider, .wider, .wider, .wider, .wider], laidTests := true, laidLooks := .later }
def FnExactIsBoardUptoCardSaid : Prop := Claim7.holds Tryd.pinned (.plain (OpenSpec.upto fnExactIsBoardSpec)) fnExactIsBoardUptoCard

/-- THE SECOND FORM's CARD OF 'laws.FnExactTerrainNamed'. -/
def fnExactTerrainNamedUptoCard : Claim7 := { stood := { row := fnExactTerrainNamedUptoRow, standIns := [], harness := (true, "c1ad321ac725c7ee1c4c251dd0bcceef73cf7234d2c1eb481cdcbd206ab7ed09"), looks := false }, kinds := [], alts := [], laidByText := true, laidKinds := [.wider, .wider, .wider, .wider, .wider, .wider, .wider, .wider, .wider, .wider, .wider, .wider, .wider, .wider], laidTests := true, laidLooks := .later }
def FnExactTerrainNamedUptoCardSaid : Prop := Claim7.holds Tryd.pinned (.plain (OpenSpec.upto fnExactTerrainNamedSpec)) fnExactTerrainNamedUptoCard

/-- THE SECOND FORM's CARD OF 'laws.FnExactKindNamed'. -/
def fnExactKindNamedUptoCard : Claim7 := { stood := { row := fnExactKindNamedUptoRow, standIns := [], harness := (true, "c1ad321ac725c7ee1c4c251dd0bcceef73cf7234d2c1eb481cdcbd206ab7ed09"), looks := false }, kinds := [], alts := [], laidByText := true, laidKinds := [.wider, .wider, .wider, .wider, .wider, .wider, .wider, .wider, .wider, .wider, .wider, .wider, .wider, .wider], laidTests := true, laidLooks := .later }
def FnExactKindNamedUptoCardSaid : Prop := Claim7.holds Tryd.pinned (.plain (OpenSpec.upto fnExactKindNamedSpec)) fnExactKindNamedUptoCard

/-- THE SECOND FORM's CARD OF 'laws.FnExactEnterCost'. -/
def fnExactEnterCostUptoCard : Claim7 := { stood := { row := fnExactEnterCostUptoRow, standIns := [], harness := (true, "c1ad321ac725c7ee1c4c251dd0bcceef73cf7234d2c1eb481cdcbd206ab7ed09"), looks := false }, kinds := [], alts := [], laidByText := true, laidKinds := [.wider, .wider, .wider, .wider, .wider, .wider, .wider, .wider, .wider, .wider, .wider, .wider, .wider, .wider, .wider], laidTests := true, laidLooks := .later }
def FnExactEnterCostUptoCardSaid : Prop := Claim7.holds Tryd.pinned (.plain (OpenSpec.upto fnExactEnterCostSpec)) fnExactEnterCostUptoCard

/-- THE SECOND FORM's CARD OF 'laws.FnExactOpenHexes'. -/
def fnExactOpenHexesUptoCard : Claim7 := { stood := { row := fnExactOpenHexesUptoRow, standIns := [], harness := (true, "c1ad321ac725c7ee1c4c251dd0bcceef73cf7234d2c1eb481cdcbd206ab7ed09"), looks := false }, kinds := [], alts := [], laidByText := true, laidKinds := [.wider, .wider, .wider, .wider, .wider, .wider, .wider, .wider, .wider, .wider, .wider, .wider, .wider, .wider, .wider], laidTests := true, laidLooks := .later }
def FnExactOpenHexesUptoCardSaid : Prop := Claim7.holds Tryd.pinned (.plain (OpenSpec.upto fnExactOpenHexesSpec)) fnExactOpenHexesUptoCard

/-- THE SECOND FORM's CARD OF 'laws.FnExactStuckKinds'. -/
def fnExactStuckKindsUptoCard : Claim7 := { stood := { row := fnExactStuckKindsUptoRow, standIns := [], harness := (true, "c1ad321ac725c7ee1c4c251dd0bcceef73cf7234d2c1eb481cdcbd206ab7ed09"), looks := false }, kinds := [], alts := [], laidByText := true, laidKinds := [.wider, .wider, .wider, .wider, .wider, .wider, .wider, .wider, .wider, .wider, .wider, .wider, .wider, .wider, .wider], laidTests := true, laidLooks := .later }
def FnExactStuckKindsUptoCardSaid : Prop := Claim7.holds Tryd.pinned (.plain (OpenSpec.upto fnExactStuckKindsSpec)) fnExactStuckKindsUptoCard

/-- THE SECOND FORM's CARD OF 'laws.FnExactUnusedTerrains'. -/
def fnExactUnusedTerrainsUptoCard : Claim7 := { stood := { row := fnExactUnusedTerrainsUptoRow, standIns := [], harness := (true, "c1ad321ac725c7ee1c4c251dd0bcceef73cf7234d2c1eb481cdcbd206ab7ed09"), looks := false }, kinds := [], alts := [], laidByText := true, laidKinds := [.wider, .wider, .wider, .wider, .wider, .wider, .wider, .wider, .wider, .wider, .wider, .wider, .wider, .wider, .wider], laidTests := true, laidLooks := .later }
def FnExactUnusedTerrainsUptoCardSaid : Prop := Claim7.holds Tryd.pinned (.plain (OpenSpec.upto fnExactUnusedTerrainsSpec)) fnExactUnusedTerrainsUptoCard

/-- THE SECOND FORM's CARD OF 'laws.FnExactMissingTerrains'. -/
def fnExactMissingTerrainsUptoCard : Claim7 := { stood := { row := fnExactMissingTerrainsUptoRow, standIns := [], harness := (true, "c1ad321ac725c7ee1c4c251dd0bcceef73cf7234d2c1eb481cdcbd206ab7ed09"), looks := false }, kinds := [], alts := [], laidByText := true, laidKinds := [.wider, .wider, .wider, .wider, .wider, .wider, .wider, .wider, .wider, .wider, .wider, .wider, .wider, .wider, .wider], laidTests := true, laidLooks := .later }
def FnExactMissingTerrainsUptoCardSaid : Prop := Claim7.holds Tryd.pinned (.plain (OpenSpec.upto fnExactMissingTerrainsSpec)) fnExactMissingTerrainsUptoCard

/-- THE SECOND FORM's CARD OF 'laws.FnExactMirrorMap'. -/
def fnExactMirrorMapUptoCard : Claim7 := { stood := { row := fnExactMirrorMapUptoRow, standIns := [], harness := (true, "c1ad321ac725c7ee1c4c251dd0bcceef73cf7234d2c1eb481cdcbd206ab7ed09"), looks := false }, kinds := [], alts := [], laidByText := true, laidKinds := [.wider], laidTests := true, laidLooks := .later }
def FnExactMirrorMapUptoCardSaid : Prop := Claim7.holds Tryd.pinned (.plain (OpenSpec.upto fnExactMirrorMapSpec)) fnExactMirrorMapUptoCard
end Rows
end Go.Proofs.YtkkcnofplddbmaaDoor
