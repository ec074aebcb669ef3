/-
  DERIVED. GIVEN WITH THE SEED: THE CARDS: each row of YtggdmnonommocaaDoorRows.lean that lists a variable, with what it lists TIED to the program's text (the seventh form; the later family's looks); each row that meets fmt, with fmt's text TOLD by the authors' own Lean function (tested against real Go, not proved from fmt's source: count such statements apart). THE CARD IS WHAT COUNTS. Prove the row's statement (the work); the ties are given (YtggdmnonommocaaDoorTie.lean); close each card by the builder's one call (the guide's Derived/Test/ToyasCard.lean, 'card_holds'). Laid BY PROGRAM, IN A SANDBOX (cutbox-door.mjs). By AI agents, Wed Nov 11 2026. No macro, syntax, notation, axiom, sorry.
-/
import Derived.Test.YtggdmnonommocaaDoorRows
import GoSem.ClaimSeven
namespace Go.Proofs.YtggdmnonommocaaDoor
namespace Rows

/-- THE TIED CARD OF 'laws.FnExactMixText'. -/
def fnExactMixTextCard : Claim7 := { stood := { row := fnExactMixTextRow, standIns := [], harness := (true, "2969547aba3984363bd84f43e43aaa242a6ade06b246289628eeff2f531e50d8"), looks := false }, kinds := [], alts := [], laidByText := true, laidKinds := [.data, .wider, .pinned], laidTests := true, laidLooks := .later }
def FnExactMixTextCardSaid : Prop := Claim7.holds Tryd.pinned (.plain (OpenSpec.ofChange fnExactMixTextSpec)) fnExactMixTextCard

/-- THE TIED CARD OF 'laws.FnExactChildSeed'. -/
def fnExactChildSeedCard : Claim7 := { stood := { row := fnExactChildSeedRow, standIns := [], harness := (true, "2969547aba3984363bd84f43e43aaa242a6ade06b246289628eeff2f531e50d8"), looks := false }, kinds := [], alts := [], laidByText := true, laidKinds := [.data, .wider, .wider, .wider, .pinned], laidTests := true, laidLooks := .later }
def FnExactChildSeedCardSaid : Prop := Claim7.holds Tryd.pinned (.plain (OpenSpec.ofChange fnExactChildSeedSpec)) fnExactChildSeedCard

/-- THE SECOND FORM's CARD OF 'laws.FnExactMixText'. -/
def fnExactMixTextUptoCard : Claim7 := { stood := { row := fnExactMixTextUptoRow, standIns := [], harness := (true, "2969547aba3984363bd84f43e43aaa242a6ade06b246289628eeff2f531e50d8"), looks := false }, kinds := [], alts := [], laidByText := true, laidKinds := [.data, .wider, .pinned], laidTests := true, laidLooks := .later }
def FnExactMixTextUptoCardSaid : Prop := Claim7.holds Tryd.pinned (.plain (OpenSpec.upto fnExactMixTextSpec)) fnExactMixTextUptoCard

/-- THE SECOND FORM's CARD OF 'laws.FnExactChildSeed'. -/
def fnExactChildSeedUptoCard : Claim7 := { stood := { row := fnExactChildSeedUptoRow, standIns := [], harness := (true, "2969547aba3984363bd84f43e43aaa242a6ade06b246289628eeff2f531e50d8"), looks := false }, kinds := [], alts := [], laidByText := true, laidKinds := [.data, .wider, .wider, .wider, .pinned], laidTests := true, laidLooks := .later }
def FnExactChildSeedUptoCardSaid : Prop := Claim7.holds Tryd.pinned (.plain (OpenSpec.upto fnExactChildSeedSpec)) fnExactChildSeedUptoCard
end Rows
end Go.Proofs.YtggdmnonommocaaDoor
