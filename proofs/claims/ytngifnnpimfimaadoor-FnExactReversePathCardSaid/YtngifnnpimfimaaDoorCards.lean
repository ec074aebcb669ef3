/-
  DERIVED. GIVEN WITH THE SEED: THE CARDS: each row of YtngifnnpimfimaaDoorRows.lean that lists a variable, with what it lists TIED to the program's text (the seventh form; the later family's looks); each row that meets fmt, with fmt's text TOLD by the authors' own Lean function (tested against real Go, not proved from fmt's source: count such statements apart). THE CARD IS WHAT COUNTS. Prove the row's statement (the work); the ties are given (YtngifnnpimfimaaDoorTie.lean); close each card by the builder's one call (the guide's Derived/Test/ToyasCard.lean, 'card_holds'). Laid BY PROGRAM, IN A SANDBOX (cutbox-door.mjs). By AI agents, Wed Nov 11 2026. No macro, syntax, notation, axiom, sorry.
-/
import Derived.Test.YtngifnnpimfimaaDoorRows
import GoSem.ClaimSeven
namespace Go.Proofs.YtngifnnpimfimaaDoor
namespace Rows

/-- THE TIED CARD OF 'laws.FnExactWeatherCost'. -/
def fnExactWeatherCostCard : Claim7 := { stood := { row := fnExactWeatherCostRow, standIns := [], harness := (true, "f94b34d69111d66e6956b12c3557750f390a7728c5c096ecab2706b2af42c160"), looks := false }, kinds := [], alts := [], laidByText := true, laidKinds := [.wider], laidTests := true, laidLooks := .later }
def FnExactWeatherCostCardSaid : Prop := Claim7.holds Tryd.pinned (.plain (OpenSpec.ofChange fnExactWeatherCostSpec)) fnExactWeatherCostCard

/-- THE TIED CARD OF 'laws.FnExactStepCost'. -/
def fnExactStepCostCard : Claim7 := { stood := { row := fnExactStepCostRow, standIns := [], harness := (true, "f94b34d69111d66e6956b12c3557750f390a7728c5c096ecab2706b2af42c160"), looks := false }, kinds := [], alts := [], laidByText := true, laidKinds := [.wider, .wider, .wider, .wider, .wider, .wider, .wider, .wider, .wider, .wider, .wider, .wider, .wider, .wider, .wider, .wider], laidTests := true, laidLooks := .later }
def FnExactStepCostCardSaid : Prop := Claim7.holds Tryd.pinned (.plain (OpenSpec.ofChange fnExactStepCostSpec)) fnExactStepCostCard

/-- THE TIED CARD OF 'laws.FnExactPathHexes'. -/
def fnExactPathHexesCard : Claim7 := { stood := { row := fnExactPathHexesRow, standIns := [], harness := (true, "f94b34d69111d66e6956b12c3557750f390a7728c5c096ecab2706b2af42c160"), looks := false }, kinds := [], alts := [], laidByText := true, laidKinds := [.wider, .wider, .wider, .wider, .wider, .wider, .wider, .wider, .wider, .wider, .wider, .wider, .wider, .wider, .wider], laidTests := true, laidLooks := .later }
def FnExactPathHexesCardSaid : Prop := Claim7.holds Tryd.pinned (.plain (OpenSpec.ofChange fnExactPathHexesSpec)) fnExactPathHexesCard

/-- THE TIED CARD OF 'laws.FnExactCheapestStep'. -/
def fnExactCheapestStepCard : Claim7 := { stood := { row := fnExactCheapestStepRow, standIns := [], harness := (true, "f94b34d69111d66e6956b12c3557750f390a7728c5c096ecab2706b2af42c160"), looks := false }, kinds := [], alts := [], laidByText := true, laidKinds := [.wider, .wider, .wider, .wider, .wider, .wider, .wider, .wider, .wider, .wider, .wider, .wider, .wider, .wider, .wider, .wider], laidTests := true, laidLooks := .later }
def FnExactCheapestStepCardSaid : Prop := Claim7.holds Tryd.pinned (.plain (OpenSpec.ofChange fnExactCheapestStepSpec)) fnExactCheapestStepCard

/-- THE TIED CARD OF 'laws.FnExactReversePath'. -/
def fnExactReversePathCard : Claim7 := { stood := { row := fnExactReversePathRow, standIns := [], harness := (true, "f94b34d69111d66e6956b12c3557750f390a7728c5c096ecab2706b2af42c160"), looks := false }, kinds := [], alts := [], laidByText := true, laidKinds := [.wider, .wider, .wider, .wider, .wider, .wider, .wider, .wider, .wider, .wider, .wider, .wider, .wider, .wider, .wider], laidTests := true, laidLooks := .later }
def FnExactReversePathCardSaid : Prop := Claim7.holds Tryd.pinned (.plain (OpenSpec.ofChange fnExactReversePathSpec)) fnExactReversePathCard

/-- THE TIED CARD OF 'laws.FnExactCostliestStep'. -/
def fnExactCostliestStepCard : Claim7 := { stood := { row := fnExactCostliestStepRow, standIns := [], harness := (true, "f94b34d69111d66e6956b12c3557750f390a7728c5c096ecab2706b2af42c160"), looks := false }, kinds := [], alts := [], laidByText := true, laidKinds := [.wider, .wider, .wider, .wider, .wider, .wider, .wider, .wider, .wider, .wider, .wider, .wider, .wider, .wider, .wider, .wider], laidTests := true, laidLooks := .later }
def FnExactCostliestStepCardSaid : Prop := Claim7.holds Tryd.pinned (.plain (OpenSpec.ofChange fnExactCostliestStepSpec)) fnExactCostliestStepCard

/-- THE SECOND FORM's CARD OF 'laws.FnExactWeatherCost'. -/
def fnExactWeatherCostUptoCard : Claim7 := { stood := { row := fnExactWeatherCostUptoRow, standIns := [], harness := (true, "f94b34d69111d66e6956b12c3557750f390a7728c5c096ecab2706b2af42c160"), looks := false }, kinds := [], alts := [], laidByText := true, laidKinds := [.wider], laidTests := true, laidLooks := .later }
def FnExactWeatherCostUptoCardSaid : Prop := Claim7.holds Tryd.pinned (.plain (OpenSpec.upto fnExactWeatherCostSpec)) fnExactWeatherCostUptoCard

/-- THE SECOND FORM's CARD OF 'laws.FnExactStepCost'. -/
def fnExactStepCostUptoCard : Claim7 := { stood := { row := fnExactStepCostUptoRow, standIns := [], harness := (true, "f94b34d69111d66e6956b12c3557750f390a7728c5c096ecab2706b2af42c160"), looks := false }, kinds := [], alts := [], laidByText := true, laidKinds := [.wider, .wider, .wider, .wider, .wider, .wider, .wider, .wider, .wider, .wider, .wider, .wider, .wider, .wider, .wider, .wider], laidTests := true, laidLooks := .later }
def FnExactStepCostUptoCardSaid : Prop := Claim7.holds Tryd.pinned (.plain (OpenSpec.upto fnExactStepCostSpec)) fnExactStepCostUptoCard

/-- THE SECOND FORM's CARD OF 'laws.FnExactPathHexes'. -/
def fnExactPathHexesUptoCard : Claim7 := { stood := { row := fnExactPathHexesUptoRow, standIns := [], harness := (true, "f94b34d69111d66e6956b12c3557750f390a7728c5c096ecab2706b2af42c160"), looks := false }, kinds := [], alts := [], laidByText := true, laidKinds := [.wider, .wider, .wider, .wider, .wider, .wider, .wider, .wider, .wider, .wider, .wider, .wider, .wider, .wider, .wider], laidTests := true, laidLooks := .later }
def FnExactPathHexesUptoCardSaid : Prop := Claim7.holds Tryd.pinned (.plain (OpenSpec.upto fnExactPathHexesSpec)) fnExactPathHexesUptoCard

/-- THE SECOND FORM's CARD OF 'laws.FnExactCheapestStep'. -/
def fnExactCheapestStepUptoCard : Claim7 := { stood := { row := fnExactCheapestStepUptoRow, standIns := [], harness := (true, "f94b34d69111d66e6956b12c3557750f390a7728c5c096ecab2706b2af42c160"), looks := false }, kinds := [], alts := [], laidByText := true, laidKinds := [.wider, .wider, .wider, .wider, .wider, .wider, .wider, .wider, .wider, .wider, .wider, .wider, .wider, .wider, .wider, .wider], laidTests := true, laidLooks := .later }
def FnExactCheapestStepUptoCardSaid : Prop := Claim7.holds Tryd.pinned (.plain (OpenSpec.upto fnExactCheapestStepSpec)) fnExactCheapestStepUptoCard

/-- THE SECOND FORM's CARD OF 'laws.FnExactReversePath'. -/
def fnExactReversePathUptoCard : Claim7 := { stood := { row := fnExactReversePathUptoRow, standIns := [], harness := (true, "f94b34d69111d66e6956b12c3557750f390a7728c5c096ecab2706b2af42c160"), looks := false }, kinds := [], alts := [], laidByText := true, laidKinds := [.wider, .wider, .wider, .wider, .wider, .wider, .wider, .wider, .wider, .wider, .wider, .wider, .wider, .wider, .wider], laidTests := true, laidLooks := .later }
def FnExactReversePathUptoCardSaid : Prop := Claim7.holds Tryd.pinned (.plain (OpenSpec.upto fnExactReversePathSpec)) fnExactReversePathUptoCard

/-- THE SECOND FORM's CARD OF 'laws.FnExactCostliestStep'. -/
def fnExactCostliestStepUptoCard : Claim7 := { stood := { row := fnExactCostliestStepUptoRow, standIns := [], harness := (true, "f94b34d69111d66e6956b12c3557750f390a7728c5c096ecab2706b2af42c160"), looks := false }, kinds := [], alts := [], laidByText := true, laidKinds := [.wider, .wider, .wider, .wider, .wider, .wider, .wider, .wider, .wider, .wider, .wider, .wider, .wider, .wider, .wider, .wider], laidTests := true, laidLooks := .later }
def FnExactCostliestStepUptoCardSaid : Prop := Claim7.holds Tryd.pinned (.plain (OpenSpec.upto fnExactCostliestStepSpec)) fnExactCostliestStepUptoCard
end Rows
end Go.Proofs.YtngifnnpimfimaaDoor
