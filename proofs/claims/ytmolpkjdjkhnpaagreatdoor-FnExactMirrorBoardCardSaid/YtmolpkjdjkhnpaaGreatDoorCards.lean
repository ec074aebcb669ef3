/-
  DERIVED. GIVEN WITH THE SEED: THE CARDS: each row of YtmolpkjdjkhnpaaGreatDoorRows.lean that lists a variable, with what it lists TIED to the program's text (the seventh form; the later family's looks); each row that meets fmt, with fmt's text TOLD by the authors' own Lean function (tested against real Go, not proved from fmt's source: count such statements apart). THE CARD IS WHAT COUNTS. Prove the row's statement (the work); the ties are given (YtmolpkjdjkhnpaaGreatDoorTie.lean); close each card by the builder's one call (the guide's Derived/Test/ToyasCard.lean, 'card_holds'). Laid BY PROGRAM, IN A SANDBOX (cutbox-door.mjs). By AI agents, Wed Nov 11 2026. No macro, syntax, notation, axiom, sorry.
-/
import Derived.Test.YtmolpkjdjkhnpaaGreatDoorRows
import GoSem.ClaimSeven
namespace Go.Proofs.YtmolpkjdjkhnpaaGreatDoor
namespace Rows

/-- THE TIED CARD OF 'laws.FnExactMirrorBoard'. -/
def fnExactMirrorBoardCard : Claim7 := { stood := { row := fnExactMirrorBoardRow, standIns := [], harness := (true, "d1b7687f5bf35881dc9c381f024be54e31fc942a9e64b65f7b540c4c51316785"), looks := false }, kinds := [], alts := [], laidByText := true, laidKinds := [.wider, .wider, .wider, .wider, .wider, .wider, .wider, .wider, .wider, .wider, .wider, .wider, .wider, .wider, .wider], laidTests := true, laidLooks := .later }
def FnExactMirrorBoardCardSaid : Prop := Claim7.holds Tryz.pinned (.plain (OpenSpec.ofChange fnExactMirrorBoardSpec)) fnExactMirrorBoardCard

/-- THE SECOND FORM's CARD OF 'laws.FnExactMirrorBoard'. -/
def fnExactMirrorBoardUptoCard : Claim7 := { stood := { row := fnExactMirrorBoardUptoRow, standIns := [], harness := (true, "d1b7687f5bf35881dc9c381f024be54e31fc942a9e64b65f7b540c4c51316785"), looks := false }, kinds := [], alts := [], laidByText := true, laidKinds := [.wider, .wider, .wider, .wider, .wider, .wider, .wider, .wider, .wider, .wider, .wider, .wider, .wider, .wider, .wider], laidTests := true, laidLooks := .later }
def FnExactMirrorBoardUptoCardSaid : Prop := Claim7.holds Tryz.pinned (.plain (OpenSpec.upto fnExactMirrorBoardSpec)) fnExactMirrorBoardUptoCard
end Rows
end Go.Proofs.YtmolpkjdjkhnpaaGreatDoor
