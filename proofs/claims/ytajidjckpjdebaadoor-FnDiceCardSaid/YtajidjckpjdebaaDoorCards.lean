/-
  DERIVED. GIVEN WITH THE SEED: THE CARDS: each row of YtajidjckpjdebaaDoorRows.lean that lists a variable, with what it lists TIED to the program's text (the seventh form; the later family's looks); each row that meets fmt, with fmt's text TOLD by the authors' own Lean function (tested against real Go, not proved from fmt's source: count such statements apart). THE CARD IS WHAT COUNTS. Prove the row's statement (the work); the ties are given (YtajidjckpjdebaaDoorTie.lean); close each card by the builder's one call (the guide's Derived/Test/ToyasCard.lean, 'card_holds'). Laid BY PROGRAM, IN A SANDBOX (cutbox-door.mjs). By AI agents, Wed Nov 11 2026. No macro, syntax, notation, axiom, sorry.
-/
import Derived.Test.YtajidjckpjdebaaDoorRows
import GoSem.ClaimSeven
namespace Go.Proofs.YtajidjckpjdebaaDoor
namespace Rows

/-- THE TIED CARD OF 'laws.FnDice'. -/
def fnDiceCard : Claim7 := { stood := { row := fnDiceRow, standIns := [], harness := (true, "e0f2c034be11935de49959a602440c8376eb209c2e666654087d3f1059cee9fb"), looks := false }, kinds := [], alts := [], laidByText := true, laidKinds := [.wider, .wider, .wider, .wider, .wider, .wider], laidTests := true, laidLooks := .later }
def FnDiceCardSaid : Prop := Claim7.holds Tryd.pinned (.plain (OpenSpec.ofChange fnDiceSpec)) fnDiceCard

/-- THE SECOND FORM's CARD OF 'laws.FnDice'. -/
def fnDiceUptoCard : Claim7 := { stood := { row := fnDiceUptoRow, standIns := [], harness := (true, "e0f2c034be11935de49959a602440c8376eb209c2e666654087d3f1059cee9fb"), looks := false }, kinds := [], alts := [], laidByText := true, laidKinds := [.wider, .wider, .wider, .wider, .wider, .wider], laidTests := true, laidLooks := .later }
def FnDiceUptoCardSaid : Prop := Claim7.holds Tryd.pinned (.plain (OpenSpec.upto fnDiceSpec)) fnDiceUptoCard
end Rows
end Go.Proofs.YtajidjckpjdebaaDoor
