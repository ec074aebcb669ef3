/-
  DERIVED. GIVEN WITH THE SEED: THE CARDS: each row of YtjpfmckoodalnaaDoorRows.lean that lists a variable, with what it lists TIED to the program's text (the seventh form; the later family's looks); each row that meets fmt, with fmt's text TOLD by the authors' own Lean function (tested against real Go, not proved from fmt's source: count such statements apart). THE CARD IS WHAT COUNTS. Prove the row's statement (the work); the ties are given (YtjpfmckoodalnaaDoorTie.lean); close each card by the builder's one call (the guide's Derived/Test/ToyasCard.lean, 'card_holds'). Laid BY PROGRAM, IN A SANDBOX (cutbox-door.mjs). By AI agents, Wed Nov 11 2026. No macro, syntax, notation, axiom, sorry.
-/
import Derived.Test.YtjpfmckoodalnaaDoorRows
import GoSem.ClaimSeven
namespace Go.Proofs.YtjpfmckoodalnaaDoor
namespace Rows

/-- THE TIED CARD OF 'laws.FnScores'. -/
def fnScoresCard : Claim7 := { stood := { row := fnScoresRow, standIns := [], harness := (true, "68b598320afce21cec402c9ace072a12ea7c764b6413a86a18fde8b698cb82c3"), looks := false }, kinds := [], alts := [], laidByText := true, laidKinds := [.data, .wider, .wider, .wider, .wider, .wider], laidTests := true, laidLooks := .later }
def FnScoresCardSaid : Prop := Claim7.holds Tryd.pinned (.plain (OpenSpec.ofChange fnScoresSpec)) fnScoresCard

/-- THE SECOND FORM's CARD OF 'laws.FnScores'. -/
def fnScoresUptoCard : Claim7 := { stood := { row := fnScoresUptoRow, standIns := [], harness := (true, "68b598320afce21cec402c9ace072a12ea7c764b6413a86a18fde8b698cb82c3"), looks := false }, kinds := [], alts := [], laidByText := true, laidKinds := [.data, .wider, .wider, .wider, .wider, .wider], laidTests := true, laidLooks := .later }
def FnScoresUptoCardSaid : Prop := Claim7.holds Tryd.pinned (.plain (OpenSpec.upto fnScoresSpec)) fnScoresUptoCard
end Rows
end Go.Proofs.YtjpfmckoodalnaaDoor
