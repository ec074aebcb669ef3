/-
  DERIVED. GIVEN WITH THE SEED: THE CARDS: each row of YtmodcmkmfedgoaaDoorRows.lean that lists a variable, with what it lists TIED to the program's text (the seventh form; the later family's looks); each row that meets fmt, with fmt's text TOLD by the authors' own Lean function (tested against real Go, not proved from fmt's source: count such statements apart). THE CARD IS WHAT COUNTS. Prove the row's statement (the work); the ties are given (YtmodcmkmfedgoaaDoorTie.lean); close each card by the builder's one call (the guide's Derived/Test/ToyasCard.lean, 'card_holds'). Laid BY PROGRAM, IN A SANDBOX (cutbox-door.mjs). By AI agents, Wed Nov 11 2026. No macro, syntax, notation, axiom, sorry.
-/
import Derived.Test.YtmodcmkmfedgoaaDoorRows
import GoSem.ClaimSeven
namespace Go.Proofs.YtmodcmkmfedgoaaDoor
namespace Rows

/-- THE TIED CARD OF 'laws.FnRings'. -/
def fnRingsCard : Claim7 := { stood := { row := fnRingsRow, standIns := [], harness := (true, "1433672038eeb2915ec052f2d39f8426303404f959bd1c788f3855f9d3433640"), looks := false }, kinds := [], alts := [], laidByText := true, laidKinds := [.wider], laidTests := true, laidLooks := .later }
def FnRingsCardSaid : Prop := Claim7.holds Tryd.pinned (.plain (OpenSpec.ofChange fnRingsSpec)) fnRingsCard

/-- THE SECOND FORM's CARD OF 'laws.FnRings'. -/
def fnRingsUptoCard : Claim7 := { stood := { row := fnRingsUptoRow, standIns := [], harness := (true, "1433672038eeb2915ec052f2d39f8426303404f959bd1c788f3855f9d3433640"), looks := false }, kinds := [], alts := [], laidByText := true, laidKinds := [.wider], laidTests := true, laidLooks := .later }
def FnRingsUptoCardSaid : Prop := Claim7.holds Tryd.pinned (.plain (OpenSpec.upto fnRingsSpec)) fnRingsUptoCard
end Rows
end Go.Proofs.YtmodcmkmfedgoaaDoor
