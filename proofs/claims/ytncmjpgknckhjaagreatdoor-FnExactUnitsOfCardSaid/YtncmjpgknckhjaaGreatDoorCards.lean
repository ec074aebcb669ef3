/-
  DERIVED. GIVEN WITH THE SEED: THE CARDS: each row of YtncmjpgknckhjaaGreatDoorRows.lean that lists a variable, with what it lists TIED to the program's text (the seventh form; the later family's looks); each row that meets fmt, with fmt's text TOLD by the authors' own Lean function (tested against real Go, not proved from fmt's source: count such statements apart). THE CARD IS WHAT COUNTS. Prove the row's statement (the work); the ties are given (YtncmjpgknckhjaaGreatDoorTie.lean); close each card by the builder's one call (the guide's Derived/Test/ToyasCard.lean, 'card_holds'). Laid BY PROGRAM, IN A SANDBOX (cutbox-door.mjs). By AI agents, Wed Nov 11 2026. No macro, syntax, notation, axiom, sorry.
-/
import Derived.Test.YtncmjpgknckhjaaGreatDoorRows
import GoSem.ClaimSeven
namespace Go.Proofs.YtncmjpgknckhjaaGreatDoor
namespace Rows

/-- THE TIED CARD OF 'laws.FnExactUnitsAt'. -/
def fnExactUnitsAtCard : Claim7 := { stood := { row := fnExactUnitsAtRow, standIns := [], harness := (true, "00cf17476aa545f68ab6170e08a258f9e75ec90fadba36832d782633ec248751"), looks := false }, kinds := [], alts := [], laidByText := true, laidKinds := [.wider, .wider, .wider, .wider, .wider, .wider, .wider, .wider, .wider, .wider, .wider, .wider, .wider, .wider, .wider, .wider, .wider, .wider], laidTests := true, laidLooks := .later }
def FnExactUnitsAtCardSaid : Prop := Claim7.holds Tryz.pinned (.plain (OpenSpec.ofChange fnExactUnitsAtSpec)) fnExactUnitsAtCard

/-- THE TIED CARD OF 'laws.FnExactUnitsOf'. -/
def fnExactUnitsOfCard : Claim7 := { stood := { row := fnExactUnitsOfRow, standIns := [], harness := (true, "00cf17476aa545f68ab6170e08a258f9e75ec90fadba36832d782633ec248751"), looks := false }, kinds := [], alts := [], laidByText := true, laidKinds := [.wider, .wider, .wider, .wider, .wider, .wider, .wider, .wider, .wider, .wider, .wider, .wider, .wider, .wider, .wider, .wider, .wider, .wider], laidTests := true, laidLooks := .later }
def FnExactUnitsOfCardSaid : Prop := Claim7.holds Tryz.pinned (.plain (OpenSpec.ofChange fnExactUnitsOfSpec)) fnExactUnitsOfCard

/-- THE TIED CARD OF 'laws.FnExactInZone'. -/
def fnExactInZoneCard : Claim7 := { stood := { row := fnExactInZoneRow, standIns := [], harness := (true, "00cf17476aa545f68ab6170e08a258f9e75ec90fadba36832d782633ec248751"), looks := false }, kinds := [], alts := [], laidByText := true, laidKinds := [.wider, .wider, .wider, .wider, .wider, .wider, .wider, .wider, .wider, .wider, .wider, .wider, .wider, .wider, .wider, .wider, .wider, .wider], laidTests := true, laidLooks := .later }
def FnExactInZoneCardSaid : Prop := Claim7.holds Tryz.pinned (.plain (OpenSpec.ofChange fnExactInZoneSpec)) fnExactInZoneCard

/-- THE TIED CARD OF 'laws.FnExactZoneHexes'. -/
def fnExactZoneHexesCard : Claim7 := { stood := { row := fnExactZoneHexesRow, standIns := [], harness := (true, "00cf17476aa545f68ab6170e08a258f9e75ec90fadba36832d782633ec248751"), looks := false }, kinds := [], alts := [], laidByText := true, laidKinds := [.wider, .wider, .wider, .wider, .wider, .wider, .wider, .wider, .wider, .wider, .wider, .wider, .wider, .wider, .wider, .wider, .wider, .wider], laidTests := true, laidLooks := .later }
def FnExactZoneHexesCardSaid : Prop := Claim7.holds Tryz.pinned (.plain (OpenSpec.ofChange fnExactZoneHexesSpec)) fnExactZoneHexesCard

/-- THE TIED CARD OF 'laws.FnExactZoneSources'. -/
def fnExactZoneSourcesCard : Claim7 := { stood := { row := fnExactZoneSourcesRow, standIns := [], harness := (true, "00cf17476aa545f68ab6170e08a258f9e75ec90fadba36832d782633ec248751"), looks := false }, kinds := [], alts := [], laidByText := true, laidKinds := [.wider, .wider, .wider, .wider, .wider, .wider, .wider, .wider, .wider, .wider, .wider, .wider, .wider, .wider, .wider, .wider, .wider, .wider], laidTests := true, laidLooks := .later }
def FnExactZoneSourcesCardSaid : Prop := Claim7.holds Tryz.pinned (.plain (OpenSpec.ofChange fnExactZoneSourcesSpec)) fnExactZoneSourcesCard

/-- THE TIED CARD OF 'laws.FnExactContestedHexes'. -/
def fnExactContestedHexesCard : Claim7 := { stood := { row := fnExactContestedHexesRow, standIns := [], harness := (true, "00cf17476aa545f68ab6170e08a258f9e75ec90fadba36832d782633ec248751"), looks := false }, kinds := [], alts := [], laidByText := true, laidKinds := [.wider, .wider, .wider, .wider, .wider, .wider, .wider, .wider, .wider, .wider, .wider, .wider, .wider, .wider, .wider, .wider, .wider, .wider], laidTests := true, laidLooks := .later }
def FnExactContestedHexesCardSaid : Prop := Claim7.holds Tryz.pinned (.plain (OpenSpec.ofChange fnExactContestedHexesSpec)) fnExactContestedHexesCard

/-- THE TIED CARD OF 'laws.FnExactMustStop'. -/
def fnExactMustStopCard : Claim7 := { stood := { row := fnExactMustStopRow, standIns := [], harness := (true, "00cf17476aa545f68ab6170e08a258f9e75ec90fadba36832d782633ec248751"), looks := false }, kinds := [], alts := [], laidByText := true, laidKinds := [.wider, .wider, .wider, .wider, .wider, .wider, .wider, .wider, .wider, .wider, .wider, .wider, .wider, .wider, .wider, .wider, .wider, .wider], laidTests := true, laidLooks := .later }
def FnExactMustStopCardSaid : Prop := Claim7.holds Tryz.pinned (.plain (OpenSpec.ofChange fnExactMustStopSpec)) fnExactMustStopCard

/-- THE TIED CARD OF 'laws.FnExactStepAllowed'. -/
def fnExactStepAllowedCard : Claim7 := { stood := { row := fnExactStepAllowedRow, standIns := [], harness := (true, "00cf17476aa545f68ab6170e08a258f9e75ec90fadba36832d782633ec248751"), looks := false }, kinds := [], alts := [], laidByText := true, laidKinds := [.wider, .wider, .wider, .wider, .wider, .wider, .wider, .wider, .wider, .wider, .wider, .wider, .wider, .wider, .wider, .wider, .wider, .wider], laidTests := true, laidLooks := .later }
def FnExactStepAllowedCardSaid : Prop := Claim7.holds Tryz.pinned (.plain (OpenSpec.ofChange fnExactStepAllowedSpec)) fnExactStepAllowedCard

/-- THE TIED CARD OF 'laws.FnExactFreeExits'. -/
def fnExactFreeExitsCard : Claim7 := { stood := { row := fnExactFreeExitsRow, standIns := [], harness := (true, "00cf17476aa545f68ab6170e08a258f9e75ec90fadba36832d782633ec248751"), looks := false }, kinds := [], alts := [], laidByText := true, laidKinds := [.wider, .wider, .wider, .wider, .wider, .wider, .wider, .wider, .wider, .wider, .wider, .wider, .wider, .wider, .wider, .wider, .wider, .wider], laidTests := true, laidLooks := .later }
def FnExactFreeExitsCardSaid : Prop := Claim7.holds Tryz.pinned (.plain (OpenSpec.ofChange fnExactFreeExitsSpec)) fnExactFreeExitsCard

/-- THE TIED CARD OF 'laws.FnExactIsSurrounded'. -/
def fnExactIsSurroundedCard : Claim7 := { stood := { row := fnExactIsSurroundedRow, standIns := [], harness := (true, "00cf17476aa545f68ab6170e08a258f9e75ec90fadba36832d782633ec248751"), looks := false }, kinds := [], alts := [], laidByText := true, laidKinds := [.wider, .wider, .wider, .wider, .wider, .wider, .wider, .wider, .wider, .wider, .wider, .wider, .wider, .wider, .wider, .wider, .wider, .wider], laidTests := true, laidLooks := .later }
def FnExactIsSurroundedCardSaid : Prop := Claim7.holds Tryz.pinned (.plain (OpenSpec.ofChange fnExactIsSurroundedSpec)) fnExactIsSurroundedCard

/-- THE TIED CARD OF 'laws.FnExactControlMap'. -/
def fnExactControlMapCard : Claim7 := { stood := { row := fnExactControlMapRow, standIns := [], harness := (true, "00cf17476aa545f68ab6170e08a258f9e75ec90fadba36832d782633ec248751"), looks := false }, kinds := [], alts := [], laidByText := true, laidKinds := [.wider, .wider, .wider, .wider, .wider, .wider, .wider, .wider, .wider, .wider, .wider, .wider, .wider, .wider, .wider, .wider, .wider, .wider], laidTests := true, laidLooks := .later }
def FnExactControlMapCardSaid : Prop := Claim7.holds Tryz.pinned (.plain (OpenSpec.ofChange fnExactControlMapSpec)) fnExactControlMapCard

/-- THE TIED CARD OF 'laws.FnExactCountControlled'. -/
def fnExactCountControlledCard : Claim7 := { stood := { row := fnExactCountControlledRow, standIns := [], harness := (true, "00cf17476aa545f68ab6170e08a258f9e75ec90fadba36832d782633ec248751"), looks := false }, kinds := [], alts := [], laidByText := true, laidKinds := [.wider, .wider, .wider, .wider, .wider, .wider, .wider, .wider, .wider, .wider, .wider, .wider, .wider, .wider, .wider, .wider, .wider, .wider], laidTests := true, laidLooks := .later }
def FnExactCountControlledCardSaid : Prop := Claim7.holds Tryz.pinned (.plain (OpenSpec.ofChange fnExactCountControlledSpec)) fnExactCountControlledCard

/-- THE SECOND FORM's CARD OF 'laws.FnExactUnitsAt'. -/
def fnExactUnitsAtUptoCard : Claim7 := { stood := { row := fnExactUnitsAtUptoRow, standIns := [], harness := (true, "00cf17476aa545f68ab6170e08a258f9e75ec90fadba36832d782633ec248751"), looks := false }, kinds := [], alts := [], laidByText := true, laidKinds := [.wider, .wider, .wider, .wider, .wider, .wider, .wider, .wider, .wider, .wider, .wider, .wider, .wider, .wider, .wider, .wider, .wider, .wider], laidTests := true, laidLooks := .later }
def FnExactUnitsAtUptoCardSaid : Prop := Claim7.holds Tryz.pinned (.plain (OpenSpec.upto fnExactUnitsAtSpec)) fnExactUnitsAtUptoCard

/-- THE SECOND FORM's CARD OF 'laws.FnExactUnitsOf'. -/
def fnExactUnitsOfUptoCard : Claim7 := { stood := { row := fnExactUnitsOfUptoRow, standIns := [], harness := (true, "00cf17476aa545f68ab6170e08a258f9e75ec90fadba36832d782633ec248751"), looks := false }, kinds := [], alts := [], laidByText := true, laidKinds := [.wider, .wider, .wider, .wider, .wider, .wider, .wider, .wider, .wider, .wider, .wider, .wider, .wider, .wider, .wider, .wider, .wider, .wider], laidTests := true, laidLooks := .later }
def FnExactUnitsOfUptoCardSaid : Prop := Claim7.holds Tryz.pinned (.plain (OpenSpec.upto fnExactUnitsOfSpec)) fnExactUnitsOfUptoCard

/-- THE SECOND FORM's CARD OF 'laws.FnExactInZone'. -/
def fnExactInZoneUptoCard : Claim7 := { stood := { row := fnExactInZoneUptoRow, standIns := [], harness := (true, "00cf17476aa545f68ab6170e08a258f9e75ec90fadba36832d782633ec248751"), looks := false }, kinds := [], alts := [], laidByText := true, laidKinds := [.wider, .wider, .wider, .wider, .wider, .wider, .wider, .wider, .wider, .wider, .wider, .wider, .wider, .wider, .wider, .wider, .wider, .wider], laidTests := true, laidLooks := .later }
def FnExactInZoneUptoCardSaid : Prop := Claim7.holds Tryz.pinned (.plain (OpenSpec.upto fnExactInZoneSpec)) fnExactInZoneUptoCard

/-- THE SECOND FORM's CARD OF 'laws.FnExactZoneHexes'. -/
def fnExactZoneHexesUptoCard : Claim7 := { stood := { row := fnExactZoneHexesUptoRow, standIns := [], harness := (true, "00cf17476aa545f68ab6170e08a258f9e75ec90fadba36832d782633ec248751"), looks := false }, kinds := [], alts := [], laidByText := true, laidKinds := [.wider, .wider, .wider, .wider, .wider, .wider, .wider, .wider, .wider, .wider, .wider, .wider, .wider, .wider, .wider, .wider, .wider, .wider], laidTests := true, laidLooks := .later }
def FnExactZoneHexesUptoCardSaid : Prop := Claim7.holds Tryz.pinned (.plain (OpenSpec.upto fnExactZoneHexesSpec)) fnExactZoneHexesUptoCard

/-- THE SECOND FORM's CARD OF 'laws.FnExactZoneSources'. -/
def fnExactZoneSourcesUptoCard : Claim7 := { stood := { row := fnExactZoneSourcesUptoRow, standIns := [], harness := (true, "00cf17476aa545f68ab6170e08a258f9e75ec90fadba36832d782633ec248751"), looks := false }, kinds := [], alts := [], laidByText := true, laidKinds := [.wider, .wider, .wider, .wider, .wider, .wider, .wider, .wider, .wider, .wider, .wider, .wider, .wider, .wider, .wider, .wider, .wider, .wider], laidTests := true, laidLooks := .later }
def FnExactZoneSourcesUptoCardSaid : Prop := Claim7.holds Tryz.pinned (.plain (OpenSpec.upto fnExactZoneSourcesSpec)) fnExactZoneSourcesUptoCard

/-- THE SECOND FORM's CARD OF 'laws.FnExactContestedHexes'. -/
def fnExactContestedHexesUptoCard : Claim7 := { stood := { row := fnExactContestedHexesUptoRow, standIns := [], harness := (true, "00cf17476aa545f68ab6170e08a258f9e75ec90fadba36832d782633ec248751"), looks := false }, kinds := [], alts := [], laidByText := true, laidKinds := [.wider, .wider, .wider, .wider, .wider, .wider, .wider, .wider, .wider, .wider, .wider, .wider, .wider, .wider, .wider, .wider, .wider, .wider], laidTests := true, laidLooks := .later }
def FnExactContestedHexesUptoCardSaid : Prop := Claim7.holds Tryz.pinned (.plain (OpenSpec.upto fnExactContestedHexesSpec)) fnExactContestedHexesUptoCard

/-- THE SECOND FORM's CARD OF 'laws.FnExactMustStop'. -/
def fnExactMustStopUptoCard : Claim7 := { stood := { row := fnExactMustStopUptoRow, standIns := [], harness := (true, "00cf17476aa545f68ab6170e08a258f9e75ec90fadba36832d782633ec248751"), looks := false }, kinds := [], alts := [], laidByText := true, laidKinds := [.wider, .wider, .wider, .wider, .wider, .wider, .wider, .wider, .wider, .wider, .wider, .wider, .wider, .wider, .wider, .wider, .wider, .wider], laidTests := true, laidLooks := .later }
def FnExactMustStopUptoCardSaid : Prop := Claim7.holds Tryz.pinned (.plain (OpenSpec.upto fnExactMustStopSpec)) fnExactMustStopUptoCard

/-- THE SECOND FORM's CARD OF 'laws.FnExactStepAllowed'. -/
def fnExactStepAllowedUptoCard : Claim7 := { stood := { row := fnExactStepAllowedUptoRow, standIns := [], harness := (true, "00cf17476aa545f68ab6170e08a258f9e75ec90fadba36832d782633ec248751"), looks := false }, kinds := [], alts := [], laidByText := true, laidKinds := [.wider, .wider, .wider, .wider, .wider, .wider, .wider, .wider, .wider, .wider, .wider, .wider, .wider, .wider, .wider, .wider, .wider, .wider], laidTests := true, laidLooks := .later }
def FnExactStepAllowedUptoCardSaid : Prop := Claim7.holds Tryz.pinned (.plain (OpenSpec.upto fnExactStepAllowedSpec)) fnExactStepAllowedUptoCard

/-- THE SECOND FORM's CARD OF 'laws.FnExactFreeExits'. -/
def fnExactFreeExitsUptoCard : Claim7 := { stood := { row := fnExactFreeExitsUptoRow, standIns := [], harness := (true, "00cf17476aa545f68ab6170e08a258f9e75ec90fadba36832d782633ec248751"), looks := false }, kinds := [], alts := [], laidByText := true, laidKinds := [.wider, .wider, .wider, .wider, .wider, .wider, .wider, .wider, .wider, .wider, .wider, .wider, .wider, .wider, .wider, .wider, .wider, .wider], laidTests := true, laidLooks := .later }
def FnExactFreeExitsUptoCardSaid : Prop := Claim7.holds Tryz.pinned (.plain (OpenSpec.upto fnExactFreeExitsSpec)) fnExactFreeExitsUptoCard

/-- THE SECOND FORM's CARD OF 'laws.FnExactIsSurrounded'. -/
def fnExactIsSurroundedUptoCard : Claim7 := { stood := { row := fnExactIsSurroundedUptoRow, standIns := [], harness := (true, "00cf17476aa545f68ab6170e08a258f9e75ec90fadba36832d782633ec248751"), looks := false }, kinds := [], alts := [], laidByText := true, laidKinds := [.wider, .wider, .wider, .wider, .wider, .wider, .wider, .wider, .wider, .wider, .wider, .wider, .wider, .wider, .wider, .wider, .wider, .wider], laidTests := true, laidLooks := .later }
def FnExactIsSurroundedUptoCardSaid : Prop := Claim7.holds Tryz.pinned (.plain (OpenSpec.upto fnExactIsSurroundedSpec)) fnExactIsSurroundedUptoCard

/-- THE SECOND FORM's CARD OF 'laws.FnExactControlMap'. -/
def fnExactControlMapUptoCard : Claim7 := { stood := { row := fnExactControlMapUptoRow, standIns := [], harness := (true, "00cf17476aa545f68ab6170e08a258f9e75ec90fadba36832d782633ec248751"), looks := false }, kinds := [], alts := [], laidByText := true, laidKinds := [.wider, .wider, .wider, .wider, .wider, .wider, .wider, .wider, .wider, .wider, .wider, .wider, .wider, .wider, .wider, .wider, .wider, .wider], laidTests := true, laidLooks := .later }
def FnExactControlMapUptoCardSaid : Prop := Claim7.holds Tryz.pinned (.plain (OpenSpec.upto fnExactControlMapSpec)) fnExactControlMapUptoCard

/-- THE SECOND FORM's CARD OF 'laws.FnExactCountControlled'. -/
def fnExactCountControlledUptoCard : Claim7 := { stood := { row := fnExactCountControlledUptoRow, standIns := [], harness := (true, "00cf17476aa545f68ab6170e08a258f9e75ec90fadba36832d782633ec248751"), looks := false }, kinds := [], alts := [], laidByText := true, laidKinds := [.wider, .wider, .wider, .wider, .wider, .wider, .wider, .wider, .wider, .wider, .wider, .wider, .wider, .wider, .wider, .wider, .wider, .wider], laidTests := true, laidLooks := .later }
def FnExactCountControlledUptoCardSaid : Prop := Claim7.holds Tryz.pinned (.plain (OpenSpec.upto fnExactCountControlledSpec)) fnExactCountControlledUptoCard
end Rows
end Go.Proofs.YtncmjpgknckhjaaGreatDoor
