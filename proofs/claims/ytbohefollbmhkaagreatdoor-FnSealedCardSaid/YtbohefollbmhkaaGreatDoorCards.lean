/-
  DERIVED. GIVEN WITH THE SEED: THE CARDS: each row of YtbohefollbmhkaaGreatDoorRows.lean that lists a variable, with what it lists TIED to the program's text (the seventh form; the later family's looks); each row that meets fmt, with fmt's text TOLD by the authors' own Lean function (tested against real Go, not proved from fmt's source: count such statements apart). THE CARD IS WHAT COUNTS. Prove the row's statement (the work); the ties are given (YtbohefollbmhkaaGreatDoorTie.lean); close each card by the builder's one call (the guide's Derived/Test/ToyasCard.lean, 'card_holds'). Laid BY PROGRAM, IN A SANDBOX (cutbox-door.mjs). By AI agents, Wed Nov 11 2026. No macro, syntax, notation, axiom, sorry.
-/
import Derived.Test.YtbohefollbmhkaaGreatDoorRows
import GoSem.ClaimSeven
namespace Go.Proofs.YtbohefollbmhkaaGreatDoor
namespace Rows

/-- THE TIED CARD OF 'laws.FnSealed'. -/
def fnSealedCard : Claim7 := { stood := { row := fnSealedRow, standIns := [], harness := (true, "6638df7d32a58eccb284d367d01e0dcfd112a72a866a12adf0793dd3da3fe26c"), looks := true }, kinds := [], alts := [], laidByText := true, laidKinds := [.data, .data, .data, .data, .sentinel, .sentinel, .wider, .wider, .wider, .wider, .wider, .wider, .pinned], laidTests := true, laidLooks := .later }
def FnSealedCardSaid : Prop := Claim7.holds Tryz.pinned (.plain (OpenSpec.ofChange fnSealedSpec)) fnSealedCard

/-- THE SECOND FORM's CARD OF 'laws.FnSealed'. -/
def fnSealedUptoCard : Claim7 := { stood := { row := fnSealedUptoRow, standIns := [], harness := (true, "6638df7d32a58eccb284d367d01e0dcfd112a72a866a12adf0793dd3da3fe26c"), looks := true }, kinds := [], alts := [], laidByText := true, laidKinds := [.data, .data, .data, .data, .sentinel, .sentinel, .wider, .wider, .wider, .wider, .wider, .wider, .pinned], laidTests := true, laidLooks := .later }
def FnSealedUptoCardSaid : Prop := Claim7.holds Tryz.pinned (.plain (OpenSpec.upto fnSealedSpec)) fnSealedUptoCard
end Rows
end Go.Proofs.YtbohefollbmhkaaGreatDoor
