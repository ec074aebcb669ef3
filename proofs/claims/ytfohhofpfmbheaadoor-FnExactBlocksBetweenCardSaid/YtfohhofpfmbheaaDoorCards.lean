/-
  DERIVED. GIVEN WITH THE SEED: THE CARDS: each row of YtfohhofpfmbheaaDoorRows.lean that lists a variable, with what it lists TIED to the program's text (the seventh form; the later family's looks); each row that meets fmt, with fmt's text TOLD by the authors' own Lean function (tested against real Go, not proved from fmt's source: count such statements apart). THE CARD IS WHAT COUNTS. Prove the row's statement (the work); the ties are given (YtfohhofpfmbheaaDoorTie.lean); close each card by the builder's one call (the guide's Derived/Test/ToyasCard.lean, 'card_holds'). Laid BY PROGRAM, IN A SANDBOX (cutbox-door.mjs). By AI agents, Wed Nov 11 2026. No macro, syntax, notation, axiom, sorry.
-/
import Derived.Test.YtfohhofpfmbheaaDoorRows
import GoSem.ClaimSeven
namespace Go.Proofs.YtfohhofpfmbheaaDoor
namespace Rows

/-- THE TIED CARD OF 'laws.FnExactBlocksBetween'. -/
def fnExactBlocksBetweenCard : Claim7 := { stood := { row := fnExactBlocksBetweenRow, standIns := [], harness := (true, "cc63c3bd1517bd7456306078ef589035fb47bc1594333014fd0b58e8bd32971a"), looks := false }, kinds := [], alts := [], laidByText := true, laidKinds := [.wider, .wider, .wider, .wider, .wider, .wider, .wider, .wider, .wider, .wider, .wider, .wider, .wider, .wider, .wider], laidTests := true, laidLooks := .later }
def FnExactBlocksBetweenCardSaid : Prop := Claim7.holds Tryd.pinned (.plain (OpenSpec.ofChange fnExactBlocksBetweenSpec)) fnExactBlocksBetweenCard

/-- THE TIED CARD OF 'laws.FnExactEnterCost'. -/
def fnExactEnterCostCard : Claim7 := { stood := { row := fnExactEnterCostRow, standIns := [], harness := (true, "cc63c3bd1517bd7456306078ef589035fb47bc1594333014fd0b58e8bd32971a"), looks := false }, kinds := [], alts := [], laidByText := true, laidKinds := [.wider, .wider, .wider, .wider, .wider, .wider, .wider, .wider, .wider, .wider, .wider, .wider, .wider, .wider, .wider], laidTests := true, laidLooks := .later }
def FnExactEnterCostCardSaid : Prop := Claim7.holds Tryd.pinned (.plain (OpenSpec.ofChange fnExactEnterCostSpec)) fnExactEnterCostCard

/-- THE TIED CARD OF 'laws.FnExactOpenHexes'. -/
def fnExactOpenHexesCard : Claim7 := { stood := { row := fnExactOpenHexesRow, standIns := [], harness := (true, "cc63c3bd1517bd7456306078ef589035fb47bc1594333014fd0b58e8bd32971a"), looks := false }, kinds := [], alts := [], laidByText := true, laidKinds := [.wider, .wider, .wider, .wider, .wider, .wider, .wider, .wider, .wider, .wider, .wider, .wider, .wider, .wider, .wider], laidTests := true, laidLooks := .later }
def FnExactOpenHexesCardSaid : Prop := Claim7.holds Tryd.pinned (.plain (OpenSpec.ofChange fnExactOpenHexesSpec)) fnExactOpenHexesCard

/-- THE TIED CARD OF 'laws.FnExactStuckKinds'. -/
def fnExactStuckKindsCard : Claim7 := { stood := { row := fnExactStuckKindsRow, standIns := [], harness := (true, "cc63c3bd1517bd7456306078ef589035fb47bc1594333014fd0b58e8bd32971a"), looks := false }, kinds := [], alts := [], laidByText := true, laidKinds := [.wider, .wider, .wider, .wider, .wider, .wider, .wider, .wider, .wider, .wider, .wider, .wider, .wider, .wider, .wider], laidTests := true, laidLooks := .later }
def FnExactStuckKindsCardSaid : Prop := Claim7.holds Tryd.pinned (.plain (OpenSpec.ofChange fnExactStuckKindsSpec)) fnExactStuckKindsCard

/-- THE SECOND FORM's CARD OF 'laws.FnExactBlocksBetween'. -/
def fnExactBlocksBetweenUptoCard : Claim7 := { stood := { row := fnExactBlocksBetweenUptoRow, standIns := [], harness := (true, "cc63c3bd1517bd7456306078ef589035fb47bc1594333014fd0b58e8bd32971a"), looks := false }, kinds := [], alts := [], laidByText := true, laidKinds := [.wider, .wider, .wider, .wider, .wider, .wider, .wider, .wider, .wider, .wider, .wider, .wider, .wider, .wider, .wider], laidTests := true, laidLooks := .later }
def FnExactBlocksBetweenUptoCardSaid : Prop := Claim7.holds Tryd.pinned (.plain (OpenSpec.upto fnExactBlocksBetweenSpec)) fnExactBlocksBetweenUptoCard

/-- THE SECOND FORM's CARD OF 'laws.FnExactEnterCost'. -/
def fnExactEnterCostUptoCard : Claim7 := { stood := { row := fnExactEnterCostUptoRow, standIns := [], harness := (true, "cc63c3bd1517bd7456306078ef589035fb47bc1594333014fd0b58e8bd32971a"), looks := false }, kinds := [], alts := [], laidByText := true, laidKinds := [.wider, .wider, .wider, .wider, .wider, .wider, .wider, .wider, .wider, .wider, .wider, .wider, .wider, .wider, .wider], laidTests := true, laidLooks := .later }
def FnExactEnterCostUptoCardSaid : Prop := Claim7.holds Tryd.pinned (.plain (OpenSpec.upto fnExactEnterCostSpec)) fnExactEnterCostUptoCard

/-- THE SECOND FORM's CARD OF 'laws.FnExactOpenHexes'. -/
def fnExactOpenHexesUptoCard : Claim7 := { stood := { row := fnExactOpenHexesUptoRow, standIns := [], harness := (true, "cc63c3bd1517bd7456306078ef589035fb47bc1594333014fd0b58e8bd32971a"), looks := false }, kinds := [], alts := [], laidByText := true, laidKinds := [.wider, .wider, .wider, .wider, .wider, .wider, .wider, .wider, .wider, .wider, .wider, .wider, .wider, .wider, .wider], laidTests := true, laidLooks := .later }
def FnExactOpenHexesUptoCardSaid : Prop := Claim7.holds Tryd.pinned (.plain (OpenSpec.upto fnExactOpenHexesSpec)) fnExactOpenHexesUptoCard

/-- THE SECOND FORM's CARD OF 'laws.FnExactStuckKinds'. -/
def fnExactStuckKindsUptoCard : Claim7 := { stood := { row := fnExactStuckKindsUptoRow, standIns := [], harness := (true, "cc63c3bd1517bd7456306078ef589035fb47bc1594333014fd0b58e8bd32971a"), looks := false }, kinds := [], alts := [], laidByText := true, laidKinds := [.wider, .wider, .wider, .wider, .wider, .wider, .wider, .wider, .wider, .wider, .wider, .wider, .wider, .wider, .wider], laidTests := true, laidLooks := .later }
def FnExactStuckKindsUptoCardSaid : Prop := Claim7.holds Tryd.pinned (.plain (OpenSpec.upto fnExactStuckKindsSpec)) fnExactStuckKindsUptoCard
end Rows
end Go.Proofs.YtfohhofpfmbheaaDoor
