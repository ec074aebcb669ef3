/-
  DERIVED. GIVEN WITH THE SEED: THE CARDS: each row of YtgefinicjphmpaaGreatDoorRows.lean that lists a variable, with what it lists TIED to the program's text (the seventh form; the later family's looks); each row that meets fmt, with fmt's text TOLD by the authors' own Lean function (tested against real Go, not proved from fmt's source: count such statements apart). THE CARD IS WHAT COUNTS. Prove the row's statement (the work); the ties are given (YtgefinicjphmpaaGreatDoorTie.lean); close each card by the builder's one call (the guide's Derived/Test/ToyasCard.lean, 'card_holds'). Laid BY PROGRAM, IN A SANDBOX (cutbox-door.mjs). By AI agents, Wed Nov 11 2026. No macro, syntax, notation, axiom, sorry.
-/
import Derived.Test.YtgefinicjphmpaaGreatDoorRows
import GoSem.ClaimSeven
namespace Go.Proofs.YtgefinicjphmpaaGreatDoor
namespace Rows

/-- THE TIED CARD OF 'laws.FnExactSupplyBlocked'. -/
def fnExactSupplyBlockedCard : Claim7 := { stood := { row := fnExactSupplyBlockedRow, standIns := [], harness := (true, "dd50b1eff77fd1d183ebe2b6ff9056049d786b244cab601c3db42c706d6a5e89"), looks := false }, kinds := [], alts := [], laidByText := true, laidKinds := [.wider, .wider, .wider, .wider, .wider, .wider, .wider, .wider, .wider, .wider, .wider, .wider, .wider, .wider, .wider, .wider, .wider, .wider], laidTests := true, laidLooks := .later }
def FnExactSupplyBlockedCardSaid : Prop := Claim7.holds Tryz.pinned (.plain (OpenSpec.ofChange fnExactSupplyBlockedSpec)) fnExactSupplyBlockedCard

/-- THE TIED CARD OF 'laws.FnExactSupplyDistances'. -/
def fnExactSupplyDistancesCard : Claim7 := { stood := { row := fnExactSupplyDistancesRow, standIns := [], harness := (true, "dd50b1eff77fd1d183ebe2b6ff9056049d786b244cab601c3db42c706d6a5e89"), looks := false }, kinds := [], alts := [], laidByText := true, laidKinds := [.wider, .wider, .wider, .wider, .wider, .wider, .wider, .wider, .wider, .wider, .wider, .wider, .wider, .wider, .wider, .wider, .wider, .wider], laidTests := true, laidLooks := .later }
def FnExactSupplyDistancesCardSaid : Prop := Claim7.holds Tryz.pinned (.plain (OpenSpec.ofChange fnExactSupplyDistancesSpec)) fnExactSupplyDistancesCard

/-- THE TIED CARD OF 'laws.FnExactInSupply'. -/
def fnExactInSupplyCard : Claim7 := { stood := { row := fnExactInSupplyRow, standIns := [], harness := (true, "dd50b1eff77fd1d183ebe2b6ff9056049d786b244cab601c3db42c706d6a5e89"), looks := false }, kinds := [], alts := [], laidByText := true, laidKinds := [.wider, .wider, .wider, .wider, .wider, .wider, .wider, .wider, .wider, .wider, .wider, .wider, .wider, .wider, .wider, .wider, .wider, .wider], laidTests := true, laidLooks := .later }
def FnExactInSupplyCardSaid : Prop := Claim7.holds Tryz.pinned (.plain (OpenSpec.ofChange fnExactInSupplySpec)) fnExactInSupplyCard

/-- THE TIED CARD OF 'laws.FnExactSupplyPath'. -/
def fnExactSupplyPathCard : Claim7 := { stood := { row := fnExactSupplyPathRow, standIns := [], harness := (true, "dd50b1eff77fd1d183ebe2b6ff9056049d786b244cab601c3db42c706d6a5e89"), looks := false }, kinds := [], alts := [], laidByText := true, laidKinds := [.wider, .wider, .wider, .wider, .wider, .wider, .wider, .wider, .wider, .wider, .wider, .wider, .wider, .wider, .wider, .wider, .wider, .wider], laidTests := true, laidLooks := .later }
def FnExactSupplyPathCardSaid : Prop := Claim7.holds Tryz.pinned (.plain (OpenSpec.ofChange fnExactSupplyPathSpec)) fnExactSupplyPathCard

/-- THE TIED CARD OF 'laws.FnExactCheckSupplyPath'. -/
def fnExactCheckSupplyPathCard : Claim7 := { stood := { row := fnExactCheckSupplyPathRow, standIns := [], harness := (true, "dd50b1eff77fd1d183ebe2b6ff9056049d786b244cab601c3db42c706d6a5e89"), looks := false }, kinds := [], alts := [], laidByText := true, laidKinds := [.wider, .wider, .wider, .wider, .wider, .wider, .wider, .wider, .wider, .wider, .wider, .wider, .wider, .wider, .wider, .wider, .wider, .wider], laidTests := true, laidLooks := .later }
def FnExactCheckSupplyPathCardSaid : Prop := Claim7.holds Tryz.pinned (.plain (OpenSpec.ofChange fnExactCheckSupplyPathSpec)) fnExactCheckSupplyPathCard

/-- THE TIED CARD OF 'laws.FnExactSuppliedUnits'. -/
def fnExactSuppliedUnitsCard : Claim7 := { stood := { row := fnExactSuppliedUnitsRow, standIns := [], harness := (true, "dd50b1eff77fd1d183ebe2b6ff9056049d786b244cab601c3db42c706d6a5e89"), looks := false }, kinds := [], alts := [], laidByText := true, laidKinds := [.wider, .wider, .wider, .wider, .wider, .wider, .wider, .wider, .wider, .wider, .wider, .wider, .wider, .wider, .wider, .wider, .wider, .wider], laidTests := true, laidLooks := .later }
def FnExactSuppliedUnitsCardSaid : Prop := Claim7.holds Tryz.pinned (.plain (OpenSpec.ofChange fnExactSuppliedUnitsSpec)) fnExactSuppliedUnitsCard

/-- THE TIED CARD OF 'laws.FnExactCutHexes'. -/
def fnExactCutHexesCard : Claim7 := { stood := { row := fnExactCutHexesRow, standIns := [], harness := (true, "dd50b1eff77fd1d183ebe2b6ff9056049d786b244cab601c3db42c706d6a5e89"), looks := false }, kinds := [], alts := [], laidByText := true, laidKinds := [.wider, .wider, .wider, .wider, .wider, .wider, .wider, .wider, .wider, .wider, .wider, .wider, .wider, .wider, .wider, .wider, .wider, .wider], laidTests := true, laidLooks := .later }
def FnExactCutHexesCardSaid : Prop := Claim7.holds Tryz.pinned (.plain (OpenSpec.ofChange fnExactCutHexesSpec)) fnExactCutHexesCard

/-- THE TIED CARD OF 'laws.FnExactLoseUnsupplied'. -/
def fnExactLoseUnsuppliedCard : Claim7 := { stood := { row := fnExactLoseUnsuppliedRow, standIns := [], harness := (true, "dd50b1eff77fd1d183ebe2b6ff9056049d786b244cab601c3db42c706d6a5e89"), looks := false }, kinds := [], alts := [], laidByText := true, laidKinds := [.wider, .wider, .wider, .wider, .wider, .wider, .wider, .wider, .wider, .wider, .wider, .wider, .wider, .wider, .wider, .wider, .wider, .wider], laidTests := true, laidLooks := .later }
def FnExactLoseUnsuppliedCardSaid : Prop := Claim7.holds Tryz.pinned (.plain (OpenSpec.ofChange fnExactLoseUnsuppliedSpec)) fnExactLoseUnsuppliedCard

/-- THE TIED CARD OF 'laws.FnExactSupplyMargin'. -/
def fnExactSupplyMarginCard : Claim7 := { stood := { row := fnExactSupplyMarginRow, standIns := [], harness := (true, "dd50b1eff77fd1d183ebe2b6ff9056049d786b244cab601c3db42c706d6a5e89"), looks := false }, kinds := [], alts := [], laidByText := true, laidKinds := [.wider, .wider, .wider, .wider, .wider, .wider, .wider, .wider, .wider, .wider, .wider, .wider, .wider, .wider, .wider, .wider, .wider, .wider], laidTests := true, laidLooks := .later }
def FnExactSupplyMarginCardSaid : Prop := Claim7.holds Tryz.pinned (.plain (OpenSpec.ofChange fnExactSupplyMarginSpec)) fnExactSupplyMarginCard

/-- THE SECOND FORM's CARD OF 'laws.FnExactSupplyBlocked'. -/
def fnExactSupplyBlockedUptoCard : Claim7 := { stood := { row := fnExactSupplyBlockedUptoRow, standIns := [], harness := (true, "dd50b1eff77fd1d183ebe2b6ff9056049d786b244cab601c3db42c706d6a5e89"), looks := false }, kinds := [], alts := [], laidByText := true, laidKinds := [.wider, .wider, .wider, .wider, .wider, .wider, .wider, .wider, .wider, .wider, .wider, .wider, .wider, .wider, .wider, .wider, .wider, .wider], laidTests := true, laidLooks := .later }
def FnExactSupplyBlockedUptoCardSaid : Prop := Claim7.holds Tryz.pinned (.plain (OpenSpec.upto fnExactSupplyBlockedSpec)) fnExactSupplyBlockedUptoCard

/-- THE SECOND FORM's CARD OF 'laws.FnExactSupplyDistances'. -/
def fnExactSupplyDistancesUptoCard : Claim7 := { stood := { row := fnExactSupplyDistancesUptoRow, standIns := [], harness := (true, "dd50b1eff77fd1d183ebe2b6ff9056049d786b244cab601c3db42c706d6a5e89"), looks := false }, kinds := [], alts := [], laidByText := true, laidKinds := [.wider, .wider, .wider, .wider, .wider, .wider, .wider, .wider, .wider, .wider, .wider, .wider, .wider, .wider, .wider, .wider, .wider, .wider], laidTests := true, laidLooks := .later }
def FnExactSupplyDistancesUptoCardSaid : Prop := Claim7.holds Tryz.pinned (.plain (OpenSpec.upto fnExactSupplyDistancesSpec)) fnExactSupplyDistancesUptoCard

/-- THE SECOND FORM's CARD OF 'laws.FnExactInSupply'. -/
def fnExactInSupplyUptoCard : Claim7 := { stood := { row := fnExactInSupplyUptoRow, standIns := [], harness := (true, "dd50b1eff77fd1d183ebe2b6ff9056049d786b244cab601c3db42c706d6a5e89"), looks := false }, kinds := [], alts := [], laidByText := true, laidKinds := [.wider, .wider, .wider, .wider, .wider, .wider, .wider, .wider, .wider, .wider, .wider, .wider, .wider, .wider, .wider, .wider, .wider, .wider], laidTests := true, laidLooks := .later }
def FnExactInSupplyUptoCardSaid : Prop := Claim7.holds Tryz.pinned (.plain (OpenSpec.upto fnExactInSupplySpec)) fnExactInSupplyUptoCard

/-- THE SECOND FORM's CARD OF 'laws.FnExactSupplyPath'. -/
def fnExactSupplyPathUptoCard : Claim7 := { stood := { row := fnExactSupplyPathUptoRow, standIns := [], harness := (true, "dd50b1eff77fd1d183ebe2b6ff9056049d786b244cab601c3db42c706d6a5e89"), looks := false }, kinds := [], alts := [], laidByText := true, laidKinds := [.wider, .wider, .wider, .wider, .wider, .wider, .wider, .wider, .wider, .wider, .wider, .wider, .wider, .wider, .wider, .wider, .wider, .wider], laidTests := true, laidLooks := .later }
def FnExactSupplyPathUptoCardSaid : Prop := Claim7.holds Tryz.pinned (.plain (OpenSpec.upto fnExactSupplyPathSpec)) fnExactSupplyPathUptoCard

/-- THE SECOND FORM's CARD OF 'laws.FnExactCheckSupplyPath'. -/
def fnExactCheckSupplyPathUptoCard : Claim7 := { stood := { row := fnExactCheckSupplyPathUptoRow, standIns := [], harness := (true, "dd50b1eff77fd1d183ebe2b6ff9056049d786b244cab601c3db42c706d6a5e89"), looks := false }, kinds := [], alts := [], laidByText := true, laidKinds := [.wider, .wider, .wider, .wider, .wider, .wider, .wider, .wider, .wider, .wider, .wider, .wider, .wider, .wider, .wider, .wider, .wider, .wider], laidTests := true, laidLooks := .later }
def FnExactCheckSupplyPathUptoCardSaid : Prop := Claim7.holds Tryz.pinned (.plain (OpenSpec.upto fnExactCheckSupplyPathSpec)) fnExactCheckSupplyPathUptoCard

/-- THE SECOND FORM's CARD OF 'laws.FnExactSuppliedUnits'. -/
def fnExactSuppliedUnitsUptoCard : Claim7 := { stood := { row := fnExactSuppliedUnitsUptoRow, standIns := [], harness := (true, "dd50b1eff77fd1d183ebe2b6ff9056049d786b244cab601c3db42c706d6a5e89"), looks := false }, kinds := [], alts := [], laidByText := true, laidKinds := [.wider, .wider, .wider, .wider, .wider, .wider, .wider, .wider, .wider, .wider, .wider, .wider, .wider, .wider, .wider, .wider, .wider, .wider], laidTests := true, laidLooks := .later }
def FnExactSuppliedUnitsUptoCardSaid : Prop := Claim7.holds Tryz.pinned (.plain (OpenSpec.upto fnExactSuppliedUnitsSpec)) fnExactSuppliedUnitsUptoCard

/-- THE SECOND FORM's CARD OF 'laws.FnExactCutHexes'. -/
def fnExactCutHexesUptoCard : Claim7 := { stood := { row := fnExactCutHexesUptoRow, standIns := [], harness := (true, "dd50b1eff77fd1d183ebe2b6ff9056049d786b244cab601c3db42c706d6a5e89"), looks := false }, kinds := [], alts := [], laidByText := true, laidKinds := [.wider, .wider, .wider, .wider, .wider, .wider, .wider, .wider, .wider, .wider, .wider, .wider, .wider, .wider, .wider, .wider, .wider, .wider], laidTests := true, laidLooks := .later }
def FnExactCutHexesUptoCardSaid : Prop := Claim7.holds Tryz.pinned (.plain (OpenSpec.upto fnExactCutHexesSpec)) fnExactCutHexesUptoCard

/-- THE SECOND FORM's CARD OF 'laws.FnExactLoseUnsupplied'. -/
def fnExactLoseUnsuppliedUptoCard : Claim7 := { stood := { row := fnExactLoseUnsuppliedUptoRow, standIns := [], harness := (true, "dd50b1eff77fd1d183ebe2b6ff9056049d786b244cab601c3db42c706d6a5e89"), looks := false }, kinds := [], alts := [], laidByText := true, laidKinds := [.wider, .wider, .wider, .wider, .wider, .wider, .wider, .wider, .wider, .wider, .wider, .wider, .wider, .wider, .wider, .wider, .wider, .wider], laidTests := true, laidLooks := .later }
def FnExactLoseUnsuppliedUptoCardSaid : Prop := Claim7.holds Tryz.pinned (.plain (OpenSpec.upto fnExactLoseUnsuppliedSpec)) fnExactLoseUnsuppliedUptoCard

/-- THE SECOND FORM's CARD OF 'laws.FnExactSupplyMargin'. -/
def fnExactSupplyMarginUptoCard : Claim7 := { stood := { row := fnExactSupplyMarginUptoRow, standIns := [], harness := (true, "dd50b1eff77fd1d183ebe2b6ff9056049d786b244cab601c3db42c706d6a5e89"), looks := false }, kinds := [], alts := [], laidByText := true, laidKinds := [.wider, .wider, .wider, .wider, .wider, .wider, .wider, .wider, .wider, .wider, .wider, .wider, .wider, .wider, .wider, .wider, .wider, .wider], laidTests := true, laidLooks := .later }
def FnExactSupplyMarginUptoCardSaid : Prop := Claim7.holds Tryz.pinned (.plain (OpenSpec.upto fnExactSupplyMarginSpec)) fnExactSupplyMarginUptoCard
end Rows
end Go.Proofs.YtgefinicjphmpaaGreatDoor
