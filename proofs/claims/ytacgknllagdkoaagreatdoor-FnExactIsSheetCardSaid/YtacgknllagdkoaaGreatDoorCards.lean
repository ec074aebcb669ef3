/-
  DERIVED. GIVEN WITH THE SEED: THE CARDS: each row of YtacgknllagdkoaaGreatDoorRows.lean that lists a variable, with what it lists TIED to the program's text (the seventh form; the later family's looks); each row that meets fmt, with fmt's text TOLD by the authors' own Lean function (tested against real Go, not proved from fmt's source: count such statements apart). THE CARD IS WHAT COUNTS. Prove the row's statement (the work); the ties are given (YtacgknllagdkoaaGreatDoorTie.lean); close each card by the builder's one call (the guide's Derived/Test/ToyasCard.lean, 'card_holds'). Laid BY PROGRAM, IN A SANDBOX (cutbox-door.mjs). By AI agents, Wed Nov 11 2026. No macro, syntax, notation, axiom, sorry.
-/
import Derived.Test.YtacgknllagdkoaaGreatDoorRows
import GoSem.ClaimSeven
namespace Go.Proofs.YtacgknllagdkoaaGreatDoor
namespace Rows

/-- THE TIED CARD OF 'laws.FnExactOrderFault'. -/
def fnExactOrderFaultCard : Claim7 := { stood := { row := fnExactOrderFaultRow, standIns := [], harness := (true, "c7c208838ead266e26f807dcdf9b44348d55f765f73050564d96046e8bf397b3"), looks := true }, kinds := [], alts := [], laidByText := true, laidKinds := [.sentinel, .sentinel, .sentinel, .sentinel, .sentinel, .wider, .wider, .wider, .wider, .wider, .wider, .wider, .wider, .wider, .wider, .wider, .wider, .wider, .wider, .wider, .wider, .wider, .wider], laidTests := true, laidLooks := .later }
def FnExactOrderFaultCardSaid : Prop := Claim7.holds Tryz.pinned (.plain (OpenSpec.ofChange fnExactOrderFaultSpec)) fnExactOrderFaultCard

/-- THE TIED CARD OF 'laws.FnExactSheetFault'. -/
def fnExactSheetFaultCard : Claim7 := { stood := { row := fnExactSheetFaultRow, standIns := [], harness := (true, "c7c208838ead266e26f807dcdf9b44348d55f765f73050564d96046e8bf397b3"), looks := true }, kinds := [], alts := [], laidByText := true, laidKinds := [.handle, .sentinel, .sentinel, .sentinel, .sentinel, .sentinel, .wider, .wider, .wider, .wider, .wider, .wider, .wider, .wider, .wider, .wider, .wider, .wider, .wider, .wider, .wider, .wider, .wider, .wider], laidTests := true, laidLooks := .later }
def FnExactSheetFaultCardSaid : Prop := Claim7.holds Tryz.pinned (.plain (OpenSpec.ofChange fnExactSheetFaultSpec)) fnExactSheetFaultCard

/-- THE TIED CARD OF 'laws.FnExactIsSheet'. -/
def fnExactIsSheetCard : Claim7 := { stood := { row := fnExactIsSheetRow, standIns := [], harness := (true, "c7c208838ead266e26f807dcdf9b44348d55f765f73050564d96046e8bf397b3"), looks := true }, kinds := [], alts := [], laidByText := true, laidKinds := [.sentinel, .sentinel, .sentinel, .sentinel, .sentinel, .wider, .wider, .wider, .wider, .wider, .wider, .wider, .wider, .wider, .wider, .wider, .wider, .wider, .wider, .wider, .wider, .wider, .wider], laidTests := true, laidLooks := .later }
def FnExactIsSheetCardSaid : Prop := Claim7.holds Tryz.pinned (.plain (OpenSpec.ofChange fnExactIsSheetSpec)) fnExactIsSheetCard

/-- THE TIED CARD OF 'laws.FnExactEndOf'. -/
def fnExactEndOfCard : Claim7 := { stood := { row := fnExactEndOfRow, standIns := [], harness := (true, "c7c208838ead266e26f807dcdf9b44348d55f765f73050564d96046e8bf397b3"), looks := true }, kinds := [], alts := [], laidByText := true, laidKinds := [.sentinel, .sentinel, .sentinel, .sentinel, .sentinel, .wider, .wider, .wider, .wider, .wider, .wider, .wider, .wider, .wider, .wider, .wider, .wider, .wider, .wider, .wider, .wider, .wider, .wider], laidTests := true, laidLooks := .later }
def FnExactEndOfCardSaid : Prop := Claim7.holds Tryz.pinned (.plain (OpenSpec.ofChange fnExactEndOfSpec)) fnExactEndOfCard

/-- THE TIED CARD OF 'laws.FnExactOrderCost'. -/
def fnExactOrderCostCard : Claim7 := { stood := { row := fnExactOrderCostRow, standIns := [], harness := (true, "c7c208838ead266e26f807dcdf9b44348d55f765f73050564d96046e8bf397b3"), looks := true }, kinds := [], alts := [], laidByText := true, laidKinds := [.sentinel, .sentinel, .sentinel, .sentinel, .sentinel, .wider, .wider, .wider, .wider, .wider, .wider, .wider, .wider, .wider, .wider, .wider, .wider, .wider, .wider, .wider, .wider, .wider, .wider], laidTests := true, laidLooks := .later }
def FnExactOrderCostCardSaid : Prop := Claim7.holds Tryz.pinned (.plain (OpenSpec.ofChange fnExactOrderCostSpec)) fnExactOrderCostCard

/-- THE TIED CARD OF 'laws.FnExactPutOrder'. -/
def fnExactPutOrderCard : Claim7 := { stood := { row := fnExactPutOrderRow, standIns := [], harness := (true, "c7c208838ead266e26f807dcdf9b44348d55f765f73050564d96046e8bf397b3"), looks := true }, kinds := [], alts := [], laidByText := true, laidKinds := [.sentinel, .sentinel, .sentinel, .sentinel, .sentinel, .wider, .wider, .wider, .wider, .wider, .wider, .wider, .wider, .wider, .wider, .wider, .wider, .wider, .wider, .wider, .wider, .wider, .wider], laidTests := true, laidLooks := .later }
def FnExactPutOrderCardSaid : Prop := Claim7.holds Tryz.pinned (.plain (OpenSpec.ofChange fnExactPutOrderSpec)) fnExactPutOrderCard

/-- THE TIED CARD OF 'laws.FnExactDropOrder'. -/
def fnExactDropOrderCard : Claim7 := { stood := { row := fnExactDropOrderRow, standIns := [], harness := (true, "c7c208838ead266e26f807dcdf9b44348d55f765f73050564d96046e8bf397b3"), looks := true }, kinds := [], alts := [], laidByText := true, laidKinds := [.sentinel, .sentinel, .sentinel, .sentinel, .sentinel, .wider, .wider, .wider, .wider, .wider, .wider, .wider, .wider, .wider, .wider, .wider, .wider, .wider, .wider, .wider, .wider, .wider, .wider], laidTests := true, laidLooks := .later }
def FnExactDropOrderCardSaid : Prop := Claim7.holds Tryz.pinned (.plain (OpenSpec.ofChange fnExactDropOrderSpec)) fnExactDropOrderCard

/-- THE TIED CARD OF 'laws.FnExactAttacksOn'. -/
def fnExactAttacksOnCard : Claim7 := { stood := { row := fnExactAttacksOnRow, standIns := [], harness := (true, "c7c208838ead266e26f807dcdf9b44348d55f765f73050564d96046e8bf397b3"), looks := true }, kinds := [], alts := [], laidByText := true, laidKinds := [.sentinel, .sentinel, .sentinel, .sentinel, .sentinel, .wider, .wider, .wider, .wider, .wider, .wider, .wider, .wider, .wider, .wider, .wider, .wider, .wider, .wider, .wider, .wider, .wider, .wider], laidTests := true, laidLooks := .later }
def FnExactAttacksOnCardSaid : Prop := Claim7.holds Tryz.pinned (.plain (OpenSpec.ofChange fnExactAttacksOnSpec)) fnExactAttacksOnCard

/-- THE TIED CARD OF 'laws.FnExactLoseUnsupplied'. -/
def fnExactLoseUnsuppliedCard : Claim7 := { stood := { row := fnExactLoseUnsuppliedRow, standIns := [], harness := (true, "c7c208838ead266e26f807dcdf9b44348d55f765f73050564d96046e8bf397b3"), looks := true }, kinds := [], alts := [], laidByText := true, laidKinds := [.wider, .wider, .wider, .wider, .wider, .wider, .wider, .wider, .wider, .wider, .wider, .wider, .wider, .wider, .wider, .wider, .wider, .wider], laidTests := true, laidLooks := .later }
def FnExactLoseUnsuppliedCardSaid : Prop := Claim7.holds Tryz.pinned (.plain (OpenSpec.ofChange fnExactLoseUnsuppliedSpec)) fnExactLoseUnsuppliedCard

/-- THE TIED CARD OF 'laws.FnExactCutHexes'. -/
def fnExactCutHexesCard : Claim7 := { stood := { row := fnExactCutHexesRow, standIns := [], harness := (true, "c7c208838ead266e26f807dcdf9b44348d55f765f73050564d96046e8bf397b3"), looks := true }, kinds := [], alts := [], laidByText := true, laidKinds := [.wider, .wider, .wider, .wider, .wider, .wider, .wider, .wider, .wider, .wider, .wider, .wider, .wider, .wider, .wider, .wider, .wider, .wider], laidTests := true, laidLooks := .later }
def FnExactCutHexesCardSaid : Prop := Claim7.holds Tryz.pinned (.plain (OpenSpec.ofChange fnExactCutHexesSpec)) fnExactCutHexesCard

/-- THE TIED CARD OF 'laws.FnExactCheckSupplyPath'. -/
def fnExactCheckSupplyPathCard : Claim7 := { stood := { row := fnExactCheckSupplyPathRow, standIns := [], harness := (true, "c7c208838ead266e26f807dcdf9b44348d55f765f73050564d96046e8bf397b3"), looks := true }, kinds := [], alts := [], laidByText := true, laidKinds := [.wider, .wider, .wider, .wider, .wider, .wider, .wider, .wider, .wider, .wider, .wider, .wider, .wider, .wider, .wider, .wider, .wider, .wider], laidTests := true, laidLooks := .later }
def FnExactCheckSupplyPathCardSaid : Prop := Claim7.holds Tryz.pinned (.plain (OpenSpec.ofChange fnExactCheckSupplyPathSpec)) fnExactCheckSupplyPathCard

/-- THE SECOND FORM's CARD OF 'laws.FnExactOrderFault'. -/
def fnExactOrderFaultUptoCard : Claim7 := { stood := { row := fnExactOrderFaultUptoRow, standIns := [], harness := (true, "c7c208838ead266e26f807dcdf9b44348d55f765f73050564d96046e8bf397b3"), looks := true }, kinds := [], alts := [], laidByText := true, laidKinds := [.sentinel, .sentinel, .sentinel, .sentinel, .sentinel, .wider, .wider, .wider, .wider, .wider, .wider, .wider, .wider, .wider, .wider, .wider, .wider, .wider, .wider, .wider, .wider, .wider, .wider], laidTests := true, laidLooks := .later }
def FnExactOrderFaultUptoCardSaid : Prop := Claim7.holds Tryz.pinned (.plain (OpenSpec.upto fnExactOrderFaultSpec)) fnExactOrderFaultUptoCard

/-- THE SECOND FORM's CARD OF 'laws.FnExactSheetFault'. -/
def fnExactSheetFaultUptoCard : Claim7 := { stood := { row := fnExactSheetFaultUptoRow, standIns := [], harness := (true, "c7c208838ead266e26f807dcdf9b44348d55f765f73050564d96046e8bf397b3"), looks := true }, kinds := [], alts := [], laidByText := true, laidKinds := [.handle, .sentinel, .sentinel, .sentinel, .sentinel, .sentinel, .wider, .wider, .wider, .wider, .wider, .wider, .wider, .wider, .wider, .wider, .wider, .wider, .wider, .wider, .wider, .wider, .wider, .wider], laidTests := true, laidLooks := .later }
def FnExactSheetFaultUptoCardSaid : Prop := Claim7.holds Tryz.pinned (.plain (OpenSpec.upto fnExactSheetFaultSpec)) fnExactSheetFaultUptoCard

/-- THE SECOND FORM's CARD OF 'laws.FnExactIsSheet'. -/
def fnExactIsSheetUptoCard : Claim7 := { stood := { row := fnExactIsSheetUptoRow, standIns := [], harness := (true, "c7c208838ead266e26f807dcdf9b44348d55f765f73050564d96046e8bf397b3"), looks := true }, kinds := [], alts := [], laidByText := true, laidKinds := [.sentinel, .sentinel, .sentinel, .sentinel, .sentinel, .wider, .wider, .wider, .wider, .wider, .wider, .wider, .wider, .wider, .wider, .wider, .wider, .wider, .wider, .wider, .wider, .wider, .wider], laidTests := true, laidLooks := .later }
def FnExactIsSheetUptoCardSaid : Prop := Claim7.holds Tryz.pinned (.plain (OpenSpec.upto fnExactIsSheetSpec)) fnExactIsSheetUptoCard

/-- THE SECOND FORM's CARD OF 'laws.FnExactEndOf'. -/
def fnExactEndOfUptoCard : Claim7 := { stood := { row := fnExactEndOfUptoRow, standIns := [], harness := (true, "c7c208838ead266e26f807dcdf9b44348d55f765f73050564d96046e8bf397b3"), looks := true }, kinds := [], alts := [], laidByText := true, laidKinds := [.sentinel, .sentinel, .sentinel, .sentinel, .sentinel, .wider, .wider, .wider, .wider, .wider, .wider, .wider, .wider, .wider, .wider, .wider, .wider, .wider, .wider, .wider, .wider, .wider, .wider], laidTests := true, laidLooks := .later }
def FnExactEndOfUptoCardSaid : Prop := Claim7.holds Tryz.pinned (.plain (OpenSpec.upto fnExactEndOfSpec)) fnExactEndOfUptoCard

/-- THE SECOND FORM's CARD OF 'laws.FnExactOrderCost'. -/
def fnExactOrderCostUptoCard : Claim7 := { stood := { row := fnExactOrderCostUptoRow, standIns := [], harness := (true, "c7c208838ead266e26f807dcdf9b44348d55f765f73050564d96046e8bf397b3"), looks := true }, kinds := [], alts := [], laidByText := true, laidKinds := [.sentinel, .sentinel, .sentinel, .sentinel, .sentinel, .wider, .wider, .wider, .wider, .wider, .wider, .wider, .wider, .wider, .wider, .wider, .wider, .wider, .wider, .wider, .wider, .wider, .wider], laidTests := true, laidLooks := .later }
def FnExactOrderCostUptoCardSaid : Prop := Claim7.holds Tryz.pinned (.plain (OpenSpec.upto fnExactOrderCostSpec)) fnExactOrderCostUptoCard

/-- THE SECOND FORM's CARD OF 'laws.FnExactPutOrder'. -/
def fnExactPutOrderUptoCard : Claim7 := { stood := { row := fnExactPutOrderUptoRow, standIns := [], harness := (true, "c7c208838ead266e26f807dcdf9b44348d55f765f73050564d96046e8bf397b3"), looks := true }, kinds := [], alts := [], laidByText := true, laidKinds := [.sentinel, .sentinel, .sentinel, .sentinel, .sentinel, .wider, .wider, .wider, .wider, .wider, .wider, .wider, .wider, .wider, .wider, .wider, .wider, .wider, .wider, .wider, .wider, .wider, .wider], laidTests := true, laidLooks := .later }
def FnExactPutOrderUptoCardSaid : Prop := Claim7.holds Tryz.pinned (.plain (OpenSpec.upto fnExactPutOrderSpec)) fnExactPutOrderUptoCard

/-- THE SECOND FORM's CARD OF 'laws.FnExactDropOrder'. -/
def fnExactDropOrderUptoCard : Claim7 := { stood := { row := fnExactDropOrderUptoRow, standIns := [], harness := (true, "c7c208838ead266e26f807dcdf9b44348d55f765f73050564d96046e8bf397b3"), looks := true }, kinds := [], alts := [], laidByText := true, laidKinds := [.sentinel, .sentinel, .sentinel, .sentinel, .sentinel, .wider, .wider, .wider, .wider, .wider, .wider, .wider, .wider, .wider, .wider, .wider, .wider, .wider, .wider, .wider, .wider, .wider, .wider], laidTests := true, laidLooks := .later }
def FnExactDropOrderUptoCardSaid : Prop := Claim7.holds Tryz.pinned (.plain (OpenSpec.upto fnExactDropOrderSpec)) fnExactDropOrderUptoCard

/-- THE SECOND FORM's CARD OF 'laws.FnExactAttacksOn'. -/
def fnExactAttacksOnUptoCard : Claim7 := { stood := { row := fnExactAttacksOnUptoRow, standIns := [], harness := (true, "c7c208838ead266e26f807dcdf9b44348d55f765f73050564d96046e8bf397b3"), looks := true }, kinds := [], alts := [], laidByText := true, laidKinds := [.sentinel, .sentinel, .sentinel, .sentinel, .sentinel, .wider, .wider, .wider, .wider, .wider, .wider, .wider, .wider, .wider, .wider, .wider, .wider, .wider, .wider, .wider, .wider, .wider, .wider], laidTests := true, laidLooks := .later }
def FnExactAttacksOnUptoCardSaid : Prop := Claim7.holds Tryz.pinned (.plain (OpenSpec.upto fnExactAttacksOnSpec)) fnExactAttacksOnUptoCard

/-- THE SECOND FORM's CARD OF 'laws.FnExactLoseUnsupplied'. -/
def fnExactLoseUnsuppliedUptoCard : Claim7 := { stood := { row := fnExactLoseUnsuppliedUptoRow, standIns := [], harness := (true, "c7c208838ead266e26f807dcdf9b44348d55f765f73050564d96046e8bf397b3"), looks := true }, kinds := [], alts := [], laidByText := true, laidKinds := [.wider, .wider, .wider, .wider, .wider, .wider, .wider, .wider, .wider, .wider, .wider, .wider, .wider, .wider, .wider, .wider, .wider, .wider], laidTests := true, laidLooks := .later }
def FnExactLoseUnsuppliedUptoCardSaid : Prop := Claim7.holds Tryz.pinned (.plain (OpenSpec.upto fnExactLoseUnsuppliedSpec)) fnExactLoseUnsuppliedUptoCard

/-- THE SECOND FORM's CARD OF 'laws.FnExactCutHexes'. -/
def fnExactCutHexesUptoCard : Claim7 := { stood := { row := fnExactCutHexesUptoRow, standIns := [], harness := (true, "c7c208838ead266e26f807dcdf9b44348d55f765f73050564d96046e8bf397b3"), looks := true }, kinds := [], alts := [], laidByText := true, laidKinds := [.wider, .wider, .wider, .wider, .wider, .wider, .wider, .wider, .wider, .wider, .wider, .wider, .wider, .wider, .wider, .wider, .wider, .wider], laidTests := true, laidLooks := .later }
def FnExactCutHexesUptoCardSaid : Prop := Claim7.holds Tryz.pinned (.plain (OpenSpec.upto fnExactCutHexesSpec)) fnExactCutHexesUptoCard

/-- THE SECOND FORM's CARD OF 'laws.FnExactCheckSupplyPath'. -/
def fnExactCheckSupplyPathUptoCard : Claim7 := { stood := { row := fnExactCheckSupplyPathUptoRow, standIns := [], harness := (true, "c7c208838ead266e26f807dcdf9b44348d55f765f73050564d96046e8bf397b3"), looks := true }, kinds := [], alts := [], laidByText := true, laidKinds := [.wider, .wider, .wider, .wider, .wider, .wider, .wider, .wider, .wider, .wider, .wider, .wider, .wider, .wider, .wider, .wider, .wider, .wider], laidTests := true, laidLooks := .later }
def FnExactCheckSupplyPathUptoCardSaid : Prop := Claim7.holds Tryz.pinned (.plain (OpenSpec.upto fnExactCheckSupplyPathSpec)) fnExactCheckSupplyPathUptoCard
end Rows
end Go.Proofs.YtacgknllagdkoaaGreatDoor
