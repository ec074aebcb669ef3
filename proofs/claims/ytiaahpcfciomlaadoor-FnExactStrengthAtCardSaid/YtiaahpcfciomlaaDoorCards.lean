/-
  DERIVED. GIVEN WITH THE SEED: THE CARDS: each row of YtiaahpcfciomlaaDoorRows.lean that lists a variable, with what it lists TIED to the program's text (the seventh form; the later family's looks); each row that meets fmt, with fmt's text TOLD by the authors' own Lean function (tested against real Go, not proved from fmt's source: count such statements apart). THE CARD IS WHAT COUNTS. Prove the row's statement (the work); the ties are given (YtiaahpcfciomlaaDoorTie.lean); close each card by the builder's one call (the guide's Derived/Test/ToyasCard.lean, 'card_holds'). Laid BY PROGRAM, IN A SANDBOX (cutbox-door.mjs). By AI agents, Wed Nov 11 2026. No macro, syntax, notation, axiom, sorry.
-/
import Derived.Test.YtiaahpcfciomlaaDoorRows
import GoSem.ClaimSeven
namespace Go.Proofs.YtiaahpcfciomlaaDoor
namespace Rows

/-- THE TIED CARD OF 'laws.FnExactIsState'. -/
def fnExactIsStateCard : Claim7 := { stood := { row := fnExactIsStateRow, standIns := [], harness := (true, "2b06665e8834190f45a483cbb901be019771ad4bfe3f1639bb7500df0099e051"), looks := false }, kinds := [], alts := [], laidByText := true, laidKinds := [.wider, .wider, .wider, .wider, .wider, .wider, .wider, .wider, .wider, .wider, .wider, .wider, .wider, .wider, .wider, .wider, .wider, .wider], laidTests := true, laidLooks := .later }
def FnExactIsStateCardSaid : Prop := Claim7.holds Tryd.pinned (.plain (OpenSpec.ofChange fnExactIsStateSpec)) fnExactIsStateCard

/-- THE TIED CARD OF 'laws.FnExactOwnerOf'. -/
def fnExactOwnerOfCard : Claim7 := { stood := { row := fnExactOwnerOfRow, standIns := [], harness := (true, "2b06665e8834190f45a483cbb901be019771ad4bfe3f1639bb7500df0099e051"), looks := false }, kinds := [], alts := [], laidByText := true, laidKinds := [.wider, .wider, .wider, .wider, .wider, .wider, .wider, .wider, .wider, .wider, .wider, .wider, .wider, .wider, .wider, .wider, .wider, .wider], laidTests := true, laidLooks := .later }
def FnExactOwnerOfCardSaid : Prop := Claim7.holds Tryd.pinned (.plain (OpenSpec.ofChange fnExactOwnerOfSpec)) fnExactOwnerOfCard

/-- THE TIED CARD OF 'laws.FnExactStackRoom'. -/
def fnExactStackRoomCard : Claim7 := { stood := { row := fnExactStackRoomRow, standIns := [], harness := (true, "2b06665e8834190f45a483cbb901be019771ad4bfe3f1639bb7500df0099e051"), looks := false }, kinds := [], alts := [], laidByText := true, laidKinds := [.wider, .wider, .wider, .wider, .wider, .wider, .wider, .wider, .wider, .wider, .wider, .wider, .wider, .wider, .wider, .wider, .wider, .wider], laidTests := true, laidLooks := .later }
def FnExactStackRoomCardSaid : Prop := Claim7.holds Tryd.pinned (.plain (OpenSpec.ofChange fnExactStackRoomSpec)) fnExactStackRoomCard

/-- THE TIED CARD OF 'laws.FnExactStrengthAt'. -/
def fnExactStrengthAtCard : Claim7 := { stood := { row := fnExactStrengthAtRow, standIns := [], harness := (true, "2b06665e8834190f45a483cbb901be019771ad4bfe3f1639bb7500df0099e051"), looks := false }, kinds := [], alts := [], laidByText := true, laidKinds := [.wider, .wider, .wider, .wider, .wider, .wider, .wider, .wider, .wider, .wider, .wider, .wider, .wider, .wider, .wider, .wider, .wider, .wider], laidTests := true, laidLooks := .later }
def FnExactStrengthAtCardSaid : Prop := Claim7.holds Tryd.pinned (.plain (OpenSpec.ofChange fnExactStrengthAtSpec)) fnExactStrengthAtCard

/-- THE TIED CARD OF 'laws.FnExactCountSteps'. -/
def fnExactCountStepsCard : Claim7 := { stood := { row := fnExactCountStepsRow, standIns := [], harness := (true, "2b06665e8834190f45a483cbb901be019771ad4bfe3f1639bb7500df0099e051"), looks := false }, kinds := [], alts := [], laidByText := true, laidKinds := [.wider, .wider, .wider, .wider, .wider, .wider, .wider, .wider, .wider, .wider, .wider, .wider, .wider, .wider, .wider, .wider, .wider, .wider], laidTests := true, laidLooks := .later }
def FnExactCountStepsCardSaid : Prop := Claim7.holds Tryd.pinned (.plain (OpenSpec.ofChange fnExactCountStepsSpec)) fnExactCountStepsCard

/-- THE SECOND FORM's CARD OF 'laws.FnExactIsState'. -/
def fnExactIsStateUptoCard : Claim7 := { stood := { row := fnExactIsStateUptoRow, standIns := [], harness := (true, "2b06665e8834190f45a483cbb901be019771ad4bfe3f1639bb7500df0099e051"), looks := false }, kinds := [], alts := [], laidByText := true, laidKinds := [.wider, .wider, .wider, .wider, .wider, .wider, .wider, .wider, .wider, .wider, .wider, .wider, .wider, .wider, .wider, .wider, .wider, .wider], laidTests := true, laidLooks := .later }
def FnExactIsStateUptoCardSaid : Prop := Claim7.holds Tryd.pinned (.plain (OpenSpec.upto fnExactIsStateSpec)) fnExactIsStateUptoCard

/-- THE SECOND FORM's CARD OF 'laws.FnExactOwnerOf'. -/
def fnExactOwnerOfUptoCard : Claim7 := { stood := { row := fnExactOwnerOfUptoRow, standIns := [], harness := (true, "2b06665e8834190f45a483cbb901be019771ad4bfe3f1639bb7500df0099e051"), looks := false }, kinds := [], alts := [], laidByText := true, laidKinds := [.wider, .wider, .wider, .wider, .wider, .wider, .wider, .wider, .wider, .wider, .wider, .wider, .wider, .wider, .wider, .wider, .wider, .wider], laidTests := true, laidLooks := .later }
def FnExactOwnerOfUptoCardSaid : Prop := Claim7.holds Tryd.pinned (.plain (OpenSpec.upto fnExactOwnerOfSpec)) fnExactOwnerOfUptoCard

/-- THE SECOND FORM's CARD OF 'laws.FnExactStackRoom'. -/
def fnExactStackRoomUptoCard : Claim7 := { stood := { row := fnExactStackRoomUptoRow, standIns := [], harness := (true, "2b06665e8834190f45a483cbb901be019771ad4bfe3f1639bb7500df0099e051"), looks := false }, kinds := [], alts := [], laidByText := true, laidKinds := [.wider, .wider, .wider, .wider, .wider, .wider, .wider, .wider, .wider, .wider, .wider, .wider, .wider, .wider, .wider, .wider, .wider, .wider], laidTests := true, laidLooks := .later }
def FnExactStackRoomUptoCardSaid : Prop := Claim7.holds Tryd.pinned (.plain (OpenSpec.upto fnExactStackRoomSpec)) fnExactStackRoomUptoCard

/-- THE SECOND FORM's CARD OF 'laws.FnExactStrengthAt'. -/
def fnExactStrengthAtUptoCard : Claim7 := { stood := { row := fnExactStrengthAtUptoRow, standIns := [], harness := (true, "2b06665e8834190f45a483cbb901be019771ad4bfe3f1639bb7500df0099e051"), looks := false }, kinds := [], alts := [], laidByText := true, laidKinds := [.wider, .wider, .wider, .wider, .wider, .wider, .wider, .wider, .wider, .wider, .wider, .wider, .wider, .wider, .wider, .wider, .wider, .wider], laidTests := true, laidLooks := .later }
def FnExactStrengthAtUptoCardSaid : Prop := Claim7.holds Tryd.pinned (.plain (OpenSpec.upto fnExactStrengthAtSpec)) fnExactStrengthAtUptoCard

/-- THE SECOND FORM's CARD OF 'laws.FnExactCountSteps'. -/
def fnExactCountStepsUptoCard : Claim7 := { stood := { row := fnExactCountStepsUptoRow, standIns := [], harness := (true, "2b06665e8834190f45a483cbb901be019771ad4bfe3f1639bb7500df0099e051"), looks := false }, kinds := [], alts := [], laidByText := true, laidKinds := [.wider, .wider, .wider, .wider, .wider, .wider, .wider, .wider, .wider, .wider, .wider, .wider, .wider, .wider, .wider, .wider, .wider, .wider], laidTests := true, laidLooks := .later }
def FnExactCountStepsUptoCardSaid : Prop := Claim7.holds Tryd.pinned (.plain (OpenSpec.upto fnExactCountStepsSpec)) fnExactCountStepsUptoCard
end Rows
end Go.Proofs.YtiaahpcfciomlaaDoor
