/-
  DERIVED. GIVEN WITH THE SEED: THE CARDS: each row of YtpenimbmonenpaaDoorRows.lean that lists a variable, with what it lists TIED to the program's text (the seventh form; the later family's looks); each row that meets fmt, with fmt's text TOLD by the authors' own Lean function (tested against real Go, not proved from fmt's source: count such statements apart). THE CARD IS WHAT COUNTS. Prove the row's statement (the work); the ties are given (YtpenimbmonenpaaDoorTie.lean); close each card by the builder's one call (the guide's Derived/Test/ToyasCard.lean, 'card_holds'). Laid BY PROGRAM, IN A SANDBOX (cutbox-door.mjs). By AI agents, Wed Nov 11 2026. No macro, syntax, notation, axiom, sorry.
-/
import Derived.Test.YtpenimbmonenpaaDoorRows
import GoSem.ClaimSeven
namespace Go.Proofs.YtpenimbmonenpaaDoor
namespace Rows

/-- THE TIED CARD OF 'laws.FnExactSealedText'. -/
def fnExactSealedTextCard : Claim7 := { stood := { row := fnExactSealedTextRow, standIns := [], harness := (true, "6d052982b7e506286514f1784b3bf5c02899a7a830b599a5cf5e3865758608c4"), looks := true }, kinds := [], alts := [], laidByText := true, laidKinds := [.data, .data, .data, .wider, .wider, .wider], laidTests := true, laidLooks := .later }
def FnExactSealedTextCardSaid : Prop := Claim7.holds Tryd.pinned (.plain (OpenSpec.ofChange fnExactSealedTextSpec)) fnExactSealedTextCard

/-- THE TIED CARD OF 'laws.FnExactParseSealed'. -/
def fnExactParseSealedCard : Claim7 := { stood := { row := fnExactParseSealedRow, standIns := [], harness := (true, "6d052982b7e506286514f1784b3bf5c02899a7a830b599a5cf5e3865758608c4"), looks := true }, kinds := [], alts := [], laidByText := true, laidKinds := [.data, .data, .data, .data, .sentinel, .sentinel, .wider, .wider, .wider, .pinned], laidTests := true, laidLooks := .later }
def FnExactParseSealedCardSaid : Prop := Claim7.holds Tryd.pinned (.plain (OpenSpec.ofChange fnExactParseSealedSpec)) fnExactParseSealedCard

/-- THE SECOND FORM's CARD OF 'laws.FnExactSealedText'. -/
def fnExactSealedTextUptoCard : Claim7 := { stood := { row := fnExactSealedTextUptoRow, standIns := [], harness := (true, "6d052982b7e506286514f1784b3bf5c02899a7a830b599a5cf5e3865758608c4"), looks := true }, kinds := [], alts := [], laidByText := true, laidKinds := [.data, .data, .data, .wider, .wider, .wider], laidTests := true, laidLooks := .later }
def FnExactSealedTextUptoCardSaid : Prop := Claim7.holds Tryd.pinned (.plain (OpenSpec.upto fnExactSealedTextSpec)) fnExactSealedTextUptoCard

/-- THE SECOND FORM's CARD OF 'laws.FnExactParseSealed'. -/
def fnExactParseSealedUptoCard : Claim7 := { stood := { row := fnExactParseSealedUptoRow, standIns := [], harness := (true, "6d052982b7e506286514f1784b3bf5c02899a7a830b599a5cf5e3865758608c4"), looks := true }, kinds := [], alts := [], laidByText := true, laidKinds := [.data, .data, .data, .data, .sentinel, .sentinel, .wider, .wider, .wider, .pinned], laidTests := true, laidLooks := .later }
def FnExactParseSealedUptoCardSaid : Prop := Claim7.holds Tryd.pinned (.plain (OpenSpec.upto fnExactParseSealedSpec)) fnExactParseSealedUptoCard
end Rows
end Go.Proofs.YtpenimbmonenpaaDoor
