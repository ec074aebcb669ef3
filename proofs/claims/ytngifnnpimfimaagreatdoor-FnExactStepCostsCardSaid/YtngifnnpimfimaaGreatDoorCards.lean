/-
  DERIVED. GIVEN WITH THE SEED: THE CARDS: each row of YtngifnnpimfimaaGreatDoorRows.lean that lists a variable, with what it lists TIED to the program's text (the seventh form; the later family's looks); each row that meets fmt, with fmt's text TOLD by the authors' own Lean function (tested against real Go, not proved from fmt's source: count such statements apart). THE CARD IS WHAT COUNTS. Prove the row's statement (the work); the ties are given (YtngifnnpimfimaaGreatDoorTie.lean); close each card by the builder's one call (the guide's Derived/Test/ToyasCard.lean, 'card_holds'). Laid BY PROGRAM, IN A SANDBOX (cutbox-door.mjs). By AI agents, Wed Nov 11 2026. No macro, syntax, notation, axiom, sorry.
-/
import Derived.Test.YtngifnnpimfimaaGreatDoorRows
import GoSem.ClaimSeven
namespace Go.Proofs.YtngifnnpimfimaaGreatDoor
namespace Rows

/-- THE TIED CARD OF 'laws.FnExactStepCosts'. -/
def fnExactStepCostsCard : Claim7 := { stood := { row := fnExactStepCostsRow, standIns := [], harness := (true, "b495439747082d7f14533faff5714f158b513b749b5af4ba60479d9472d7f0c3"), looks := false }, kinds := [], alts := [], laidByText := true, laidKinds := [.wider, .wider, .wider, .wider, .wider, .wider, .wider, .wider, .wider, .wider, .wider, .wider, .wider, .wider, .wider, .wider], laidTests := true, laidLooks := .later }
def FnExactStepCostsCardSaid : Prop := Claim7.holds Tryz.pinned (.plain (OpenSpec.ofChange fnExactStepCostsSpec)) fnExactStepCostsCard

/-- THE TIED CARD OF 'laws.FnExactPathCost'. -/
def fnExactPathCostCard : Claim7 := { stood := { row := fnExactPathCostRow, standIns := [], harness := (true, "b495439747082d7f14533faff5714f158b513b749b5af4ba60479d9472d7f0c3"), looks := false }, kinds := [], alts := [], laidByText := true, laidKinds := [.wider, .wider, .wider, .wider, .wider, .wider, .wider, .wider, .wider, .wider, .wider, .wider, .wider, .wider, .wider, .wider], laidTests := true, laidLooks := .later }
def FnExactPathCostCardSaid : Prop := Claim7.holds Tryz.pinned (.plain (OpenSpec.ofChange fnExactPathCostSpec)) fnExactPathCostCard

/-- THE TIED CARD OF 'laws.FnExactStepsWithin'. -/
def fnExactStepsWithinCard : Claim7 := { stood := { row := fnExactStepsWithinRow, standIns := [], harness := (true, "b495439747082d7f14533faff5714f158b513b749b5af4ba60479d9472d7f0c3"), looks := false }, kinds := [], alts := [], laidByText := true, laidKinds := [.wider, .wider, .wider, .wider, .wider, .wider, .wider, .wider, .wider, .wider, .wider, .wider, .wider, .wider, .wider, .wider, .wider], laidTests := true, laidLooks := .later }
def FnExactStepsWithinCardSaid : Prop := Claim7.holds Tryz.pinned (.plain (OpenSpec.ofChange fnExactStepsWithinSpec)) fnExactStepsWithinCard

/-- THE SECOND FORM's CARD OF 'laws.FnExactStepCosts'. -/
def fnExactStepCostsUptoCard : Claim7 := { stood := { row := fnExactStepCostsUptoRow, standIns := [], harness := (true, "b495439747082d7f14533faff5714f158b513b749b5af4ba60479d9472d7f0c3"), looks := false }, kinds := [], alts := [], laidByText := true, laidKinds := [.wider, .wider, .wider, .wider, .wider, .wider, .wider, .wider, .wider, .wider, .wider, .wider, .wider, .wider, .wider, .wider], laidTests := true, laidLooks := .later }
def FnExactStepCostsUptoCardSaid : Prop := Claim7.holds Tryz.pinned (.plain (OpenSpec.upto fnExactStepCostsSpec)) fnExactStepCostsUptoCard

/-- THE SECOND FORM's CARD OF 'laws.FnExactPathCost'. -/
def fnExactPathCostUptoCard : Claim7 := { stood := { row := fnExactPathCostUptoRow, standIns := [], harness := (true, "b495439747082d7f14533faff5714f158b513b749b5af4ba60479d9472d7f0c3"), looks := false }, kinds := [], alts := [], laidByText := true, laidKinds := [.wider, .wider, .wider, .wider, .wider, .wider, .wider, .wider, .wider, .wider, .wider, .wider, .wider, .wider, .wider, .wider], laidTests := true, laidLooks := .later }
def FnExactPathCostUptoCardSaid : Prop := Claim7.holds Tryz.pinned (.plain (OpenSpec.upto fnExactPathCostSpec)) fnExactPathCostUptoCard

/-- THE SECOND FORM's CARD OF 'laws.FnExactStepsWithin'. -/
def fnExactStepsWithinUptoCard : Claim7 := { stood := { row := fnExactStepsWithinUptoRow, standIns := [], harness := (true, "b495439747082d7f14533faff5714f158b513b749b5af4ba60479d9472d7f0c3"), looks := false }, kinds := [], alts := [], laidByText := true, laidKinds := [.wider, .wider, .wider, .wider, .wider, .wider, .wider, .wider, .wider, .wider, .wider, .wider, .wider, .wider, .wider, .wider, .wider], laidTests := true, laidLooks := .later }
def FnExactStepsWithinUptoCardSaid : Prop := Claim7.holds Tryz.pinned (.plain (OpenSpec.upto fnExactStepsWithinSpec)) fnExactStepsWithinUptoCard
end Rows
end Go.Proofs.YtngifnnpimfimaaGreatDoor
