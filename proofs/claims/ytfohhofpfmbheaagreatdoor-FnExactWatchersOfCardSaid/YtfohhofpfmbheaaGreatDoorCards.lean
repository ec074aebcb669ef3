/-
  DERIVED. GIVEN WITH THE SEED: THE CARDS: each row of YtfohhofpfmbheaaGreatDoorRows.lean that lists a variable, with what it lists TIED to the program's text (the seventh form; the later family's looks); each row that meets fmt, with fmt's text TOLD by the authors' own Lean function (tested against real Go, not proved from fmt's source: count such statements apart). THE CARD IS WHAT COUNTS. Prove the row's statement (the work); the ties are given (YtfohhofpfmbheaaGreatDoorTie.lean); close each card by the builder's one call (the guide's Derived/Test/ToyasCard.lean, 'card_holds'). Laid BY PROGRAM, IN A SANDBOX (cutbox-door.mjs). By AI agents, Wed Nov 11 2026. No macro, syntax, notation, axiom, sorry.
-/
import Derived.Test.YtfohhofpfmbheaaGreatDoorRows
import GoSem.ClaimSeven
namespace Go.Proofs.YtfohhofpfmbheaaGreatDoor
namespace Rows

/-- THE TIED CARD OF 'laws.FnExactSightCells'. -/
def fnExactSightCellsCard : Claim7 := { stood := { row := fnExactSightCellsRow, standIns := [], harness := (true, "a42281c7e25926f76b565dc3a4949c68701e4d731218fd5f4a7fb369a44d85e4"), looks := false }, kinds := [], alts := [], laidByText := true, laidKinds := [.wider, .wider, .wider, .wider, .wider, .wider, .wider, .wider, .wider, .wider, .wider, .wider, .wider, .wider, .wider], laidTests := true, laidLooks := .later }
def FnExactSightCellsCardSaid : Prop := Claim7.holds Tryz.pinned (.plain (OpenSpec.ofChange fnExactSightCellsSpec)) fnExactSightCellsCard

/-- THE TIED CARD OF 'laws.FnExactSightCode'. -/
def fnExactSightCodeCard : Claim7 := { stood := { row := fnExactSightCodeRow, standIns := [], harness := (true, "a42281c7e25926f76b565dc3a4949c68701e4d731218fd5f4a7fb369a44d85e4"), looks := false }, kinds := [], alts := [], laidByText := true, laidKinds := [.wider, .wider, .wider, .wider, .wider, .wider, .wider, .wider, .wider, .wider, .wider, .wider, .wider, .wider, .wider], laidTests := true, laidLooks := .later }
def FnExactSightCodeCardSaid : Prop := Claim7.holds Tryz.pinned (.plain (OpenSpec.ofChange fnExactSightCodeSpec)) fnExactSightCodeCard

/-- THE TIED CARD OF 'laws.FnExactFirstBlock'. -/
def fnExactFirstBlockCard : Claim7 := { stood := { row := fnExactFirstBlockRow, standIns := [], harness := (true, "a42281c7e25926f76b565dc3a4949c68701e4d731218fd5f4a7fb369a44d85e4"), looks := false }, kinds := [], alts := [], laidByText := true, laidKinds := [.wider, .wider, .wider, .wider, .wider, .wider, .wider, .wider, .wider, .wider, .wider, .wider, .wider, .wider, .wider], laidTests := true, laidLooks := .later }
def FnExactFirstBlockCardSaid : Prop := Claim7.holds Tryz.pinned (.plain (OpenSpec.ofChange fnExactFirstBlockSpec)) fnExactFirstBlockCard

/-- THE TIED CARD OF 'laws.FnExactSeenFrom'. -/
def fnExactSeenFromCard : Claim7 := { stood := { row := fnExactSeenFromRow, standIns := [], harness := (true, "a42281c7e25926f76b565dc3a4949c68701e4d731218fd5f4a7fb369a44d85e4"), looks := false }, kinds := [], alts := [], laidByText := true, laidKinds := [.wider, .wider, .wider, .wider, .wider, .wider, .wider, .wider, .wider, .wider, .wider, .wider, .wider, .wider, .wider, .wider], laidTests := true, laidLooks := .later }
def FnExactSeenFromCardSaid : Prop := Claim7.holds Tryz.pinned (.plain (OpenSpec.ofChange fnExactSeenFromSpec)) fnExactSeenFromCard

/-- THE TIED CARD OF 'laws.FnExactClearFrom'. -/
def fnExactClearFromCard : Claim7 := { stood := { row := fnExactClearFromRow, standIns := [], harness := (true, "a42281c7e25926f76b565dc3a4949c68701e4d731218fd5f4a7fb369a44d85e4"), looks := false }, kinds := [], alts := [], laidByText := true, laidKinds := [.wider, .wider, .wider, .wider, .wider, .wider, .wider, .wider, .wider, .wider, .wider, .wider, .wider, .wider, .wider, .wider], laidTests := true, laidLooks := .later }
def FnExactClearFromCardSaid : Prop := Claim7.holds Tryz.pinned (.plain (OpenSpec.ofChange fnExactClearFromSpec)) fnExactClearFromCard

/-- THE TIED CARD OF 'laws.FnExactSeenBy'. -/
def fnExactSeenByCard : Claim7 := { stood := { row := fnExactSeenByRow, standIns := [], harness := (true, "a42281c7e25926f76b565dc3a4949c68701e4d731218fd5f4a7fb369a44d85e4"), looks := false }, kinds := [], alts := [], laidByText := true, laidKinds := [.wider, .wider, .wider, .wider, .wider, .wider, .wider, .wider, .wider, .wider, .wider, .wider, .wider, .wider, .wider], laidTests := true, laidLooks := .later }
def FnExactSeenByCardSaid : Prop := Claim7.holds Tryz.pinned (.plain (OpenSpec.ofChange fnExactSeenBySpec)) fnExactSeenByCard

/-- THE TIED CARD OF 'laws.FnExactWatchersOf'. -/
def fnExactWatchersOfCard : Claim7 := { stood := { row := fnExactWatchersOfRow, standIns := [], harness := (true, "a42281c7e25926f76b565dc3a4949c68701e4d731218fd5f4a7fb369a44d85e4"), looks := false }, kinds := [], alts := [], laidByText := true, laidKinds := [.wider, .wider, .wider, .wider, .wider, .wider, .wider, .wider, .wider, .wider, .wider, .wider, .wider, .wider, .wider], laidTests := true, laidLooks := .later }
def FnExactWatchersOfCardSaid : Prop := Claim7.holds Tryz.pinned (.plain (OpenSpec.ofChange fnExactWatchersOfSpec)) fnExactWatchersOfCard

/-- THE TIED CARD OF 'laws.FnExactBestLookout'. -/
def fnExactBestLookoutCard : Claim7 := { stood := { row := fnExactBestLookoutRow, standIns := [], harness := (true, "a42281c7e25926f76b565dc3a4949c68701e4d731218fd5f4a7fb369a44d85e4"), looks := false }, kinds := [], alts := [], laidByText := true, laidKinds := [.wider, .wider, .wider, .wider, .wider, .wider, .wider, .wider, .wider, .wider, .wider, .wider, .wider, .wider, .wider], laidTests := true, laidLooks := .later }
def FnExactBestLookoutCardSaid : Prop := Claim7.holds Tryz.pinned (.plain (OpenSpec.ofChange fnExactBestLookoutSpec)) fnExactBestLookoutCard

/-- THE SECOND FORM's CARD OF 'laws.FnExactSightCells'. -/
def fnExactSightCellsUptoCard : Claim7 := { stood := { row := fnExactSightCellsUptoRow, standIns := [], harness := (true, "a42281c7e25926f76b565dc3a4949c68701e4d731218fd5f4a7fb369a44d85e4"), looks := false }, kinds := [], alts := [], laidByText := true, laidKinds := [.wider, .wider, .wider, .wider, .wider, .wider, .wider, .wider, .wider, .wider, .wider, .wider, .wider, .wider, .wider], laidTests := true, laidLooks := .later }
def FnExactSightCellsUptoCardSaid : Prop := Claim7.holds Tryz.pinned (.plain (OpenSpec.upto fnExactSightCellsSpec)) fnExactSightCellsUptoCard

/-- THE SECOND FORM's CARD OF 'laws.FnExactSightCode'. -/
def fnExactSightCodeUptoCard : Claim7 := { stood := { row := fnExactSightCodeUptoRow, standIns := [], harness := (true, "a42281c7e25926f76b565dc3a4949c68701e4d731218fd5f4a7fb369a44d85e4"), looks := false }, kinds := [], alts := [], laidByText := true, laidKinds := [.wider, .wider, .wider, .wider, .wider, .wider, .wider, .wider, .wider, .wider, .wider, .wider, .wider, .wider, .wider], laidTests := true, laidLooks := .later }
def FnExactSightCodeUptoCardSaid : Prop := Claim7.holds Tryz.pinned (.plain (OpenSpec.upto fnExactSightCodeSpec)) fnExactSightCodeUptoCard

/-- THE SECOND FORM's CARD OF 'laws.FnExactFirstBlock'. -/
def fnExactFirstBlockUptoCard : Claim7 := { stood := { row := fnExactFirstBlockUptoRow, standIns := [], harness := (true, "a42281c7e25926f76b565dc3a4949c68701e4d731218fd5f4a7fb369a44d85e4"), looks := false }, kinds := [], alts := [], laidByText := true, laidKinds := [.wider, .wider, .wider, .wider, .wider, .wider, .wider, .wider, .wider, .wider, .wider, .wider, .wider, .wider, .wider], laidTests := true, laidLooks := .later }
def FnExactFirstBlockUptoCardSaid : Prop := Claim7.holds Tryz.pinned (.plain (OpenSpec.upto fnExactFirstBlockSpec)) fnExactFirstBlockUptoCard

/-- THE SECOND FORM's CARD OF 'laws.FnExactSeenFrom'. -/
def fnExactSeenFromUptoCard : Claim7 := { stood := { row := fnExactSeenFromUptoRow, standIns := [], harness := (true, "a42281c7e25926f76b565dc3a4949c68701e4d731218fd5f4a7fb369a44d85e4"), looks := false }, kinds := [], alts := [], laidByText := true, laidKinds := [.wider, .wider, .wider, .wider, .wider, .wider, .wider, .wider, .wider, .wider, .wider, .wider, .wider, .wider, .wider, .wider], laidTests := true, laidLooks := .later }
def FnExactSeenFromUptoCardSaid : Prop := Claim7.holds Tryz.pinned (.plain (OpenSpec.upto fnExactSeenFromSpec)) fnExactSeenFromUptoCard

/-- THE SECOND FORM's CARD OF 'laws.FnExactClearFrom'. -/
def fnExactClearFromUptoCard : Claim7 := { stood := { row := fnExactClearFromUptoRow, standIns := [], harness := (true, "a42281c7e25926f76b565dc3a4949c68701e4d731218fd5f4a7fb369a44d85e4"), looks := false }, kinds := [], alts := [], laidByText := true, laidKinds := [.wider, .wider, .wider, .wider, .wider, .wider, .wider, .wider, .wider, .wider, .wider, .wider, .wider, .wider, .wider, .wider], laidTests := true, laidLooks := .later }
def FnExactClearFromUptoCardSaid : Prop := Claim7.holds Tryz.pinned (.plain (OpenSpec.upto fnExactClearFromSpec)) fnExactClearFromUptoCard

/-- THE SECOND FORM's CARD OF 'laws.FnExactSeenBy'. -/
def fnExactSeenByUptoCard : Claim7 := { stood := { row := fnExactSeenByUptoRow, standIns := [], harness := (true, "a42281c7e25926f76b565dc3a4949c68701e4d731218fd5f4a7fb369a44d85e4"), looks := false }, kinds := [], alts := [], laidByText := true, laidKinds := [.wider, .wider, .wider, .wider, .wider, .wider, .wider, .wider, .wider, .wider, .wider, .wider, .wider, .wider, .wider], laidTests := true, laidLooks := .later }
def FnExactSeenByUptoCardSaid : Prop := Claim7.holds Tryz.pinned (.plain (OpenSpec.upto fnExactSeenBySpec)) fnExactSeenByUptoCard

/-- THE SECOND FORM's CARD OF 'laws.FnExactWatchersOf'. -/
def fnExactWatchersOfUptoCard : Claim7 := { stood := { row := fnExactWatchersOfUptoRow, standIns := [], harness := (true, "a42281c7e25926f76b565dc3a4949c68701e4d731218fd5f4a7fb369a44d85e4"), looks := false }, kinds := [], alts := [], laidByText := true, laidKinds := [.wider, .wider, .wider, .wider, .wider, .wider, .wider, .wider, .wider, .wider, .wider, .wider, .wider, .wider, .wider], laidTests := true, laidLooks := .later }
def FnExactWatchersOfUptoCardSaid : Prop := Claim7.holds Tryz.pinned (.plain (OpenSpec.upto fnExactWatchersOfSpec)) fnExactWatchersOfUptoCard

/-- THE SECOND FORM's CARD OF 'laws.FnExactBestLookout'. -/
def fnExactBestLookoutUptoCard : Claim7 := { stood := { row := fnExactBestLookoutUptoRow, standIns := [], harness := (true, "a42281c7e25926f76b565dc3a4949c68701e4d731218fd5f4a7fb369a44d85e4"), looks := false }, kinds := [], alts := [], laidByText := true, laidKinds := [.wider, .wider, .wider, .wider, .wider, .wider, .wider, .wider, .wider, .wider, .wider, .wider, .wider, .wider, .wider], laidTests := true, laidLooks := .later }
def FnExactBestLookoutUptoCardSaid : Prop := Claim7.holds Tryz.pinned (.plain (OpenSpec.upto fnExactBestLookoutSpec)) fnExactBestLookoutUptoCard
end Rows
end Go.Proofs.YtfohhofpfmbheaaGreatDoor
