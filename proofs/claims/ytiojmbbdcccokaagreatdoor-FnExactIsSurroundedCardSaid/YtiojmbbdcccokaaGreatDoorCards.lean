/-
  DERIVED. GIVEN WITH THE SEED: THE CARDS: each row of YtiojmbbdcccokaaGreatDoorRows.lean that lists a variable, with what it lists TIED to the program's text (the seventh form; the later family's looks); each row that meets fmt, with fmt's text TOLD by the authors' own Lean function (tested against real Go, not proved from fmt's source: count such statements apart). THE CARD IS WHAT COUNTS. Prove the row's statement (the work); the ties are given (YtiojmbbdcccokaaGreatDoorTie.lean); close each card by the builder's one call (the guide's Derived/Test/ToyasCard.lean, 'card_holds'). Laid BY PROGRAM, IN A SANDBOX (cutbox-door.mjs). By AI agents, Wed Nov 11 2026. No macro, syntax, notation, axiom, sorry.
-/
import Derived.Test.YtiojmbbdcccokaaGreatDoorRows
import GoSem.ClaimSeven
namespace Go.Proofs.YtiojmbbdcccokaaGreatDoor
namespace Rows

/-- THE TIED CARD OF 'laws.FnExactContestedHexes'. -/
def fnExactContestedHexesCard : Claim7 := { stood := { row := fnExactContestedHexesRow, standIns := [], harness := (true, "6b5ee2bf8f2f30beeef3e960744439e27034ee205d8e16132e6fa6c862a1bc98"), looks := false }, kinds := [], alts := [], laidByText := true, laidKinds := [.wider, .wider, .wider, .wider, .wider, .wider, .wider, .wider, .wider, .wider, .wider, .wider, .wider, .wider, .wider, .wider, .wider, .wider], laidTests := true, laidLooks := .later }
def FnExactContestedHexesCardSaid : Prop := Claim7.holds Tryz.pinned (.plain (OpenSpec.ofChange fnExactContestedHexesSpec)) fnExactContestedHexesCard

/-- THE TIED CARD OF 'laws.FnExactStepAllowed'. -/
def fnExactStepAllowedCard : Claim7 := { stood := { row := fnExactStepAllowedRow, standIns := [], harness := (true, "6b5ee2bf8f2f30beeef3e960744439e27034ee205d8e16132e6fa6c862a1bc98"), looks := false }, kinds := [], alts := [], laidByText := true, laidKinds := [.wider, .wider, .wider, .wider, .wider, .wider, .wider, .wider, .wider, .wider, .wider, .wider, .wider, .wider, .wider, .wider, .wider, .wider], laidTests := true, laidLooks := .later }
def FnExactStepAllowedCardSaid : Prop := Claim7.holds Tryz.pinned (.plain (OpenSpec.ofChange fnExactStepAllowedSpec)) fnExactStepAllowedCard

/-- THE TIED CARD OF 'laws.FnExactFreeExits'. -/
def fnExactFreeExitsCard : Claim7 := { stood := { row := fnExactFreeExitsRow, standIns := [], harness := (true, "6b5ee2bf8f2f30beeef3e960744439e27034ee205d8e16132e6fa6c862a1bc98"), looks := false }, kinds := [], alts := [], laidByText := true, laidKinds := [.wider, .wider, .wider, .wider, .wider, .wider, .wider, .wider, .wider, .wider, .wider, .wider, .wider, .wider, .wider, .wider, .wider, .wider], laidTests := true, laidLooks := .later }
def FnExactFreeExitsCardSaid : Prop := Claim7.holds Tryz.pinned (.plain (OpenSpec.ofChange fnExactFreeExitsSpec)) fnExactFreeExitsCard

/-- THE TIED CARD OF 'laws.FnExactIsSurrounded'. -/
def fnExactIsSurroundedCard : Claim7 := { stood := { row := fnExactIsSurroundedRow, standIns := [], harness := (true, "6b5ee2bf8f2f30beeef3e960744439e27034ee205d8e16132e6fa6c862a1bc98"), looks := false }, kinds := [], alts := [], laidByText := true, laidKinds := [.wider, .wider, .wider, .wider, .wider, .wider, .wider, .wider, .wider, .wider, .wider, .wider, .wider, .wider, .wider, .wider, .wider, .wider], laidTests := true, laidLooks := .later }
def FnExactIsSurroundedCardSaid : Prop := Claim7.holds Tryz.pinned (.plain (OpenSpec.ofChange fnExactIsSurroundedSpec)) fnExactIsSurroundedCard

/-- THE SECOND FORM's CARD OF 'laws.FnExactContestedHexes'. -/
def fnExactContestedHexesUptoCard : Claim7 := { stood := { row := fnExactContestedHexesUptoRow, standIns := [], harness := (true, "6b5ee2bf8f2f30beeef3e960744439e27034ee205d8e16132e6fa6c862a1bc98"), looks := false }, kinds := [], alts := [], laidByText := true, laidKinds := [.wider, .wider, .wider, .wider, .wider, .wider, .wider, .wider, .wider, .wider, .wider, .wider, .wider, .wider, .wider, .wider, .wider, .wider], laidTests := true, laidLooks := .later }
def FnExactContestedHexesUptoCardSaid : Prop := Claim7.holds Tryz.pinned (.plain (OpenSpec.upto fnExactContestedHexesSpec)) fnExactContestedHexesUptoCard

/-- THE SECOND FORM's CARD OF 'laws.FnExactStepAllowed'. -/
def fnExactStepAllowedUptoCard : Claim7 := { stood := { row := fnExactStepAllowedUptoRow, standIns := [], harness := (true, "6b5ee2bf8f2f30beeef3e960744439e27034ee205d8e16132e6fa6c862a1bc98"), looks := false }, kinds := [], alts := [], laidByText := true, laidKinds := [.wider, .wider, .wider, .wider, .wider, .wider, .wider, .wider, .wider, .wider, .wider, .wider, .wider, .wider, .wider, .wider, .wider, .wider], laidTests := true, laidLooks := .later }
def FnExactStepAllowedUptoCardSaid : Prop := Claim7.holds Tryz.pinned (.plain (OpenSpec.upto fnExactStepAllowedSpec)) fnExactStepAllowedUptoCard

/-- THE SECOND FORM's CARD OF 'laws.FnExactFreeExits'. -/
def fnExactFreeExitsUptoCard : Claim7 := { stood := { row := fnExactFreeExitsUptoRow, standIns := [], harness := (true, "6b5ee2bf8f2f30beeef3e960744439e27034ee205d8e16132e6fa6c862a1bc98"), looks := false }, kinds := [], alts := [], laidByText := true, laidKinds := [.wider, .wider, .wider, .wider, .wider, .wider, .wider, .wider, .wider, .wider, .wider, .wider, .wider, .wider, .wider, .wider, .wider, .wider], laidTests := true, laidLooks := .later }
def FnExactFreeExitsUptoCardSaid : Prop := Claim7.holds Tryz.pinned (.plain (OpenSpec.upto fnExactFreeExitsSpec)) fnExactFreeExitsUptoCard

/-- THE SECOND FORM's CARD OF 'laws.FnExactIsSurrounded'. -/
def fnExactIsSurroundedUptoCard : Claim7 := { stood := { row := fnExactIsSurroundedUptoRow, standIns := [], harness := (true, "6b5ee2bf8f2f30beeef3e960744439e27034ee205d8e16132e6fa6c862a1bc98"), looks := false }, kinds := [], alts := [], laidByText := true, laidKinds := [.wider, .wider, .wider, .wider, .wider, .wider, .wider, .wider, .wider, .wider, .wider, .wider, .wider, .wider, .wider, .wider, .wider, .wider], laidTests := true, laidLooks := .later }
def FnExactIsSurroundedUptoCardSaid : Prop := Claim7.holds Tryz.pinned (.plain (OpenSpec.upto fnExactIsSurroundedSpec)) fnExactIsSurroundedUptoCard
end Rows
end Go.Proofs.YtiojmbbdcccokaaGreatDoor
