/-
  DERIVED. GIVEN WITH THE SEED: THE CARDS: each row of YtnobcpgckdgheaaDoorRows.lean that lists a variable, with what it lists TIED to the program's text (the seventh form; the later family's looks); each row that meets fmt, with fmt's text TOLD by the authors' own Lean function (tested against real Go, not proved from fmt's source: count such statements apart). THE CARD IS WHAT COUNTS. Prove the row's statement (the work); the ties are given (YtnobcpgckdgheaaDoorTie.lean); close each card by the builder's one call (the guide's Derived/Test/ToyasCard.lean, 'card_holds'). Laid BY PROGRAM, IN A SANDBOX (cutbox-door.mjs). By AI agents, Wed Nov 11 2026. No macro, syntax, notation, axiom, sorry.
-/
import Derived.Test.YtnobcpgckdgheaaDoorRows
import GoSem.ClaimSeven
namespace Go.Proofs.YtnobcpgckdgheaaDoor
namespace Rows

/-- THE TIED CARD OF 'laws.FnExactIsSealed'. -/
def fnExactIsSealedCard : Claim7 := { stood := { row := fnExactIsSealedRow, standIns := [], harness := (true, "429fa59fe8ed036c8bab77133d6d204a7d8dd82c48619f79c99c3ae6cc90f135"), looks := false }, kinds := [], alts := [], laidByText := true, laidKinds := [.wider, .wider, .wider], laidTests := true, laidLooks := .later }
def FnExactIsSealedCardSaid : Prop := Claim7.holds Tryd.pinned (.plain (OpenSpec.ofChange fnExactIsSealedSpec)) fnExactIsSealedCard

/-- THE TIED CARD OF 'laws.FnExactSealOrders'. -/
def fnExactSealOrdersCard : Claim7 := { stood := { row := fnExactSealOrdersRow, standIns := [], harness := (true, "429fa59fe8ed036c8bab77133d6d204a7d8dd82c48619f79c99c3ae6cc90f135"), looks := false }, kinds := [], alts := [], laidByText := true, laidKinds := [.data, .wider, .wider, .wider, .wider, .pinned], laidTests := true, laidLooks := .later }
def FnExactSealOrdersCardSaid : Prop := Claim7.holds Tryd.pinned (.plain (OpenSpec.ofChange fnExactSealOrdersSpec)) fnExactSealOrdersCard

/-- THE TIED CARD OF 'laws.FnExactOpensTo'. -/
def fnExactOpensToCard : Claim7 := { stood := { row := fnExactOpensToRow, standIns := [], harness := (true, "429fa59fe8ed036c8bab77133d6d204a7d8dd82c48619f79c99c3ae6cc90f135"), looks := false }, kinds := [], alts := [], laidByText := true, laidKinds := [.data, .wider, .wider, .wider, .wider, .pinned], laidTests := true, laidLooks := .later }
def FnExactOpensToCardSaid : Prop := Claim7.holds Tryd.pinned (.plain (OpenSpec.ofChange fnExactOpensToSpec)) fnExactOpensToCard

/-- THE TIED CARD OF 'laws.FnExactFirstBadOpening'. -/
def fnExactFirstBadOpeningCard : Claim7 := { stood := { row := fnExactFirstBadOpeningRow, standIns := [], harness := (true, "429fa59fe8ed036c8bab77133d6d204a7d8dd82c48619f79c99c3ae6cc90f135"), looks := false }, kinds := [], alts := [], laidByText := true, laidKinds := [.data, .wider, .wider, .wider, .wider, .wider, .pinned], laidTests := true, laidLooks := .later }
def FnExactFirstBadOpeningCardSaid : Prop := Claim7.holds Tryd.pinned (.plain (OpenSpec.ofChange fnExactFirstBadOpeningSpec)) fnExactFirstBadOpeningCard

/-- THE TIED CARD OF 'laws.FnExactJointSeed'. -/
def fnExactJointSeedCard : Claim7 := { stood := { row := fnExactJointSeedRow, standIns := [], harness := (true, "429fa59fe8ed036c8bab77133d6d204a7d8dd82c48619f79c99c3ae6cc90f135"), looks := false }, kinds := [], alts := [], laidByText := true, laidKinds := [.wider, .wider, .wider, .wider], laidTests := true, laidLooks := .later }
def FnExactJointSeedCardSaid : Prop := Claim7.holds Tryd.pinned (.plain (OpenSpec.ofChange fnExactJointSeedSpec)) fnExactJointSeedCard

/-- THE TIED CARD OF 'laws.FnExactSealChain'. -/
def fnExactSealChainCard : Claim7 := { stood := { row := fnExactSealChainRow, standIns := [], harness := (true, "429fa59fe8ed036c8bab77133d6d204a7d8dd82c48619f79c99c3ae6cc90f135"), looks := false }, kinds := [], alts := [], laidByText := true, laidKinds := [.wider, .wider, .wider, .wider], laidTests := true, laidLooks := .later }
def FnExactSealChainCardSaid : Prop := Claim7.holds Tryd.pinned (.plain (OpenSpec.ofChange fnExactSealChainSpec)) fnExactSealChainCard

/-- THE TIED CARD OF 'laws.FnExactFirstBadSeal'. -/
def fnExactFirstBadSealCard : Claim7 := { stood := { row := fnExactFirstBadSealRow, standIns := [], harness := (true, "429fa59fe8ed036c8bab77133d6d204a7d8dd82c48619f79c99c3ae6cc90f135"), looks := false }, kinds := [], alts := [], laidByText := true, laidKinds := [.wider, .wider, .wider, .wider], laidTests := true, laidLooks := .later }
def FnExactFirstBadSealCardSaid : Prop := Claim7.holds Tryd.pinned (.plain (OpenSpec.ofChange fnExactFirstBadSealSpec)) fnExactFirstBadSealCard

/-- THE SECOND FORM's CARD OF 'laws.FnExactIsSealed'. -/
def fnExactIsSealedUptoCard : Claim7 := { stood := { row := fnExactIsSealedUptoRow, standIns := [], harness := (true, "429fa59fe8ed036c8bab77133d6d204a7d8dd82c48619f79c99c3ae6cc90f135"), looks := false }, kinds := [], alts := [], laidByText := true, laidKinds := [.wider, .wider, .wider], laidTests := true, laidLooks := .later }
def FnExactIsSealedUptoCardSaid : Prop := Claim7.holds Tryd.pinned (.plain (OpenSpec.upto fnExactIsSealedSpec)) fnExactIsSealedUptoCard

/-- THE SECOND FORM's CARD OF 'laws.FnExactSealOrders'. -/
def fnExactSealOrdersUptoCard : Claim7 := { stood := { row := fnExactSealOrdersUptoRow, standIns := [], harness := (true, "429fa59fe8ed036c8bab77133d6d204a7d8dd82c48619f79c99c3ae6cc90f135"), looks := false }, kinds := [], alts := [], laidByText := true, laidKinds := [.data, .wider, .wider, .wider, .wider, .pinned], laidTests := true, laidLooks := .later }
def FnExactSealOrdersUptoCardSaid : Prop := Claim7.holds Tryd.pinned (.plain (OpenSpec.upto fnExactSealOrdersSpec)) fnExactSealOrdersUptoCard

/-- THE SECOND FORM's CARD OF 'laws.FnExactOpensTo'. -/
def fnExactOpensToUptoCard : Claim7 := { stood := { row := fnExactOpensToUptoRow, standIns := [], harness := (true, "429fa59fe8ed036c8bab77133d6d204a7d8dd82c48619f79c99c3ae6cc90f135"), looks := false }, kinds := [], alts := [], laidByText := true, laidKinds := [.data, .wider, .wider, .wider, .wider, .pinned], laidTests := true, laidLooks := .later }
def FnExactOpensToUptoCardSaid : Prop := Claim7.holds Tryd.pinned (.plain (OpenSpec.upto fnExactOpensToSpec)) fnExactOpensToUptoCard

/-- THE SECOND FORM's CARD OF 'laws.FnExactFirstBadOpening'. -/
def fnExactFirstBadOpeningUptoCard : Claim7 := { stood := { row := fnExactFirstBadOpeningUptoRow, standIns := [], harness := (true, "429fa59fe8ed036c8bab77133d6d204a7d8dd82c48619f79c99c3ae6cc90f135"), looks := false }, kinds := [], alts := [], laidByText := true, laidKinds := [.data, .wider, .wider, .wider, .wider, .wider, .pinned], laidTests := true, laidLooks := .later }
def FnExactFirstBadOpeningUptoCardSaid : Prop := Claim7.holds Tryd.pinned (.plain (OpenSpec.upto fnExactFirstBadOpeningSpec)) fnExactFirstBadOpeningUptoCard

/-- THE SECOND FORM's CARD OF 'laws.FnExactJointSeed'. -/
def fnExactJointSeedUptoCard : Claim7 := { stood := { row := fnExactJointSeedUptoRow, standIns := [], harness := (true, "429fa59fe8ed036c8bab77133d6d204a7d8dd82c48619f79c99c3ae6cc90f135"), looks := false }, kinds := [], alts := [], laidByText := true, laidKinds := [.wider, .wider, .wider, .wider], laidTests := true, laidLooks := .later }
def FnExactJointSeedUptoCardSaid : Prop := Claim7.holds Tryd.pinned (.plain (OpenSpec.upto fnExactJointSeedSpec)) fnExactJointSeedUptoCard

/-- THE SECOND FORM's CARD OF 'laws.FnExactSealChain'. -/
def fnExactSealChainUptoCard : Claim7 := { stood := { row := fnExactSealChainUptoRow, standIns := [], harness := (true, "429fa59fe8ed036c8bab77133d6d204a7d8dd82c48619f79c99c3ae6cc90f135"), looks := false }, kinds := [], alts := [], laidByText := true, laidKinds := [.wider, .wider, .wider, .wider], laidTests := true, laidLooks := .later }
def FnExactSealChainUptoCardSaid : Prop := Claim7.holds Tryd.pinned (.plain (OpenSpec.upto fnExactSealChainSpec)) fnExactSealChainUptoCard

/-- THE SECOND FORM's CARD OF 'laws.FnExactFirstBadSeal'. -/
def fnExactFirstBadSealUptoCard : Claim7 := { stood := { row := fnExactFirstBadSealUptoRow, standIns := [], harness := (true, "429fa59fe8ed036c8bab77133d6d204a7d8dd82c48619f79c99c3ae6cc90f135"), looks := false }, kinds := [], alts := [], laidByText := true, laidKinds := [.wider, .wider, .wider, .wider], laidTests := true, laidLooks := .later }
def FnExactFirstBadSealUptoCardSaid : Prop := Claim7.holds Tryd.pinned (.plain (OpenSpec.upto fnExactFirstBadSealSpec)) fnExactFirstBadSealUptoCard
end Rows
end Go.Proofs.YtnobcpgckdgheaaDoor
