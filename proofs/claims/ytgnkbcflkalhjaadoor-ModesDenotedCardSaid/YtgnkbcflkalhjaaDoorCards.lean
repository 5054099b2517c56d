/-
  DERIVED. GIVEN WITH THE SEED: THE CARDS: each row of YtgnkbcflkalhjaaDoorRows.lean that lists a variable, with what it lists TIED to the program's text (the seventh form; the later family's looks); each row that meets fmt, with fmt's text TOLD by the authors' own Lean function (tested against real Go, not proved from fmt's source: count such statements apart). THE CARD IS WHAT COUNTS. Prove the row's statement (the work); the ties are given (YtgnkbcflkalhjaaDoorTie.lean); close each card by the builder's one call (the guide's Derived/Test/ToyasCard.lean, 'card_holds'). Laid BY PROGRAM, IN A SANDBOX (cutbox-door.mjs). By AI agents, Wed Nov 11 2026. No macro, syntax, notation, axiom, sorry.
-/
import Derived.Test.YtgnkbcflkalhjaaDoorRows
import GoSem.ClaimSeven
namespace Go.Proofs.YtgnkbcflkalhjaaDoor
namespace Rows

/-- THE TIED CARD OF 'narratorlaw11.ModesSet'. -/
def modesSetCard : Claim7 := { stood := { row := modesSetRow, standIns := [], harness := (true, "cda94bf86d786ad48f15aabe32cda90982c90937da43549c7f25d0d6c10225e8"), looks := false }, kinds := [], alts := [], laidByText := true, laidKinds := [.data], laidTests := true, laidLooks := .later }
def ModesSetCardSaid : Prop := Claim7.holds Tryd.pinned (.plain (OpenSpec.ofChange modesSetSpec)) modesSetCard

/-- THE TIED CARD OF 'narratorlaw11.ModesCharacters'. -/
def modesCharactersCard : Claim7 := { stood := { row := modesCharactersRow, standIns := [], harness := (true, "cda94bf86d786ad48f15aabe32cda90982c90937da43549c7f25d0d6c10225e8"), looks := false }, kinds := [], alts := [], laidByText := true, laidKinds := [.data], laidTests := true, laidLooks := .later }
def ModesCharactersCardSaid : Prop := Claim7.holds Tryd.pinned (.plain (OpenSpec.ofChange modesCharactersSpec)) modesCharactersCard

/-- THE TIED CARD OF 'narratorlaw11.ModesConcatenation'. -/
def modesConcatenationCard : Claim7 := { stood := { row := modesConcatenationRow, standIns := [], harness := (true, "cda94bf86d786ad48f15aabe32cda90982c90937da43549c7f25d0d6c10225e8"), looks := false }, kinds := [], alts := [], laidByText := true, laidKinds := [.data], laidTests := true, laidLooks := .later }
def ModesConcatenationCardSaid : Prop := Claim7.holds Tryd.pinned (.plain (OpenSpec.ofChange modesConcatenationSpec)) modesConcatenationCard

/-- THE TIED CARD OF 'narratorlaw11.ModesLast'. -/
def modesLastCard : Claim7 := { stood := { row := modesLastRow, standIns := [], harness := (true, "cda94bf86d786ad48f15aabe32cda90982c90937da43549c7f25d0d6c10225e8"), looks := false }, kinds := [], alts := [], laidByText := true, laidKinds := [.data], laidTests := true, laidLooks := .later }
def ModesLastCardSaid : Prop := Claim7.holds Tryd.pinned (.plain (OpenSpec.ofChange modesLastSpec)) modesLastCard

/-- THE TIED CARD OF 'narratorlaw11.ModesSeparation'. -/
def modesSeparationCard : Claim7 := { stood := { row := modesSeparationRow, standIns := [], harness := (true, "cda94bf86d786ad48f15aabe32cda90982c90937da43549c7f25d0d6c10225e8"), looks := false }, kinds := [], alts := [], laidByText := true, laidKinds := [.data], laidTests := true, laidLooks := .later }
def ModesSeparationCardSaid : Prop := Claim7.holds Tryd.pinned (.plain (OpenSpec.ofChange modesSeparationSpec)) modesSeparationCard

/-- THE TIED CARD OF 'narratorlaw11.ModesDenoted'. -/
def modesDenotedCard : Claim7 := { stood := { row := modesDenotedRow, standIns := [], harness := (true, "cda94bf86d786ad48f15aabe32cda90982c90937da43549c7f25d0d6c10225e8"), looks := false }, kinds := [], alts := [], laidByText := true, laidKinds := [.data], laidTests := true, laidLooks := .later }
def ModesDenotedCardSaid : Prop := Claim7.holds Tryd.pinned (.plain (OpenSpec.ofChange modesDenotedSpec)) modesDenotedCard

/-- THE TIED CARD OF 'narratorlaw11.ModesGraphics'. -/
def modesGraphicsCard : Claim7 := { stood := { row := modesGraphicsRow, standIns := [], harness := (true, "cda94bf86d786ad48f15aabe32cda90982c90937da43549c7f25d0d6c10225e8"), looks := false }, kinds := [], alts := [], laidByText := true, laidKinds := [.data], laidTests := true, laidLooks := .later }
def ModesGraphicsCardSaid : Prop := Claim7.holds Tryd.pinned (.plain (OpenSpec.ofChange modesGraphicsSpec)) modesGraphicsCard

/-- THE TIED CARD OF 'narratorlaw11.ModesActive'. -/
def modesActiveCard : Claim7 := { stood := { row := modesActiveRow, standIns := [], harness := (true, "cda94bf86d786ad48f15aabe32cda90982c90937da43549c7f25d0d6c10225e8"), looks := false }, kinds := [], alts := [], laidByText := true, laidKinds := [.data], laidTests := true, laidLooks := .later }
def ModesActiveCardSaid : Prop := Claim7.holds Tryd.pinned (.plain (OpenSpec.ofChange modesActiveSpec)) modesActiveCard

/-- THE SECOND FORM's CARD OF 'narratorlaw11.ModesSet'. -/
def modesSetUptoCard : Claim7 := { stood := { row := modesSetUptoRow, standIns := [], harness := (true, "cda94bf86d786ad48f15aabe32cda90982c90937da43549c7f25d0d6c10225e8"), looks := false }, kinds := [], alts := [], laidByText := true, laidKinds := [.data], laidTests := true, laidLooks := .later }
def ModesSetUptoCardSaid : Prop := Claim7.holds Tryd.pinned (.plain (OpenSpec.upto modesSetSpec)) modesSetUptoCard

/-- THE SECOND FORM's CARD OF 'narratorlaw11.ModesCharacters'. -/
def modesCharactersUptoCard : Claim7 := { stood := { row := modesCharactersUptoRow, standIns := [], harness := (true, "cda94bf86d786ad48f15aabe32cda90982c90937da43549c7f25d0d6c10225e8"), looks := false }, kinds := [], alts := [], laidByText := true, laidKinds := [.data], laidTests := true, laidLooks := .later }
def ModesCharactersUptoCardSaid : Prop := Claim7.holds Tryd.pinned (.plain (OpenSpec.upto modesCharactersSpec)) modesCharactersUptoCard

/-- THE SECOND FORM's CARD OF 'narratorlaw11.ModesConcatenation'. -/
def modesConcatenationUptoCard : Claim7 := { stood := { row := modesConcatenationUptoRow, standIns := [], harness := (true, "cda94bf86d786ad48f15aabe32cda90982c90937da43549c7f25d0d6c10225e8"), looks := false }, kinds := [], alts := [], laidByText := true, laidKinds := [.data], laidTests := true, laidLooks := .later }
def ModesConcatenationUptoCardSaid : Prop := Claim7.holds Tryd.pinned (.plain (OpenSpec.upto modesConcatenationSpec)) modesConcatenationUptoCard

/-- THE SECOND FORM's CARD OF 'narratorlaw11.ModesLast'. -/
def modesLastUptoCard : Claim7 := { stood := { row := modesLastUptoRow, standIns := [], harness := (true, "cda94bf86d786ad48f15aabe32cda90982c90937da43549c7f25d0d6c10225e8"), looks := false }, kinds := [], alts := [], laidByText := true, laidKinds := [.data], laidTests := true, laidLooks := .later }
def ModesLastUptoCardSaid : Prop := Claim7.holds Tryd.pinned (.plain (OpenSpec.upto modesLastSpec)) modesLastUptoCard

/-- THE SECOND FORM's CARD OF 'narratorlaw11.ModesSeparation'. -/
def modesSeparationUptoCard : Claim7 := { stood := { row := modesSeparationUptoRow, standIns := [], harness := (true, "cda94bf86d786ad48f15aabe32cda90982c90937da43549c7f25d0d6c10225e8"), looks := false }, kinds := [], alts := [], laidByText := true, laidKinds := [.data], laidTests := true, laidLooks := .later }
def ModesSeparationUptoCardSaid : Prop := Claim7.holds Tryd.pinned (.plain (OpenSpec.upto modesSeparationSpec)) modesSeparationUptoCard

/-- THE SECOND FORM's CARD OF 'narratorlaw11.ModesDenoted'. -/
def modesDenotedUptoCard : Claim7 := { stood := { row := modesDenotedUptoRow, standIns := [], harness := (true, "cda94bf86d786ad48f15aabe32cda90982c90937da43549c7f25d0d6c10225e8"), looks := false }, kinds := [], alts := [], laidByText := true, laidKinds := [.data], laidTests := true, laidLooks := .later }
def ModesDenotedUptoCardSaid : Prop := Claim7.holds Tryd.pinned (.plain (OpenSpec.upto modesDenotedSpec)) modesDenotedUptoCard

/-- THE SECOND FORM's CARD OF 'narratorlaw11.ModesGraphics'. -/
def modesGraphicsUptoCard : Claim7 := { stood := { row := modesGraphicsUptoRow, standIns := [], harness := (true, "cda94bf86d786ad48f15aabe32cda90982c90937da43549c7f25d0d6c10225e8"), looks := false }, kinds := [], alts := [], laidByText := true, laidKinds := [.data], laidTests := true, laidLooks := .later }
def ModesGraphicsUptoCardSaid : Prop := Claim7.holds Tryd.pinned (.plain (OpenSpec.upto modesGraphicsSpec)) modesGraphicsUptoCard

/-- THE SECOND FORM's CARD OF 'narratorlaw11.ModesActive'. -/
def modesActiveUptoCard : Claim7 := { stood := { row := modesActiveUptoRow, standIns := [], harness := (true, "cda94bf86d786ad48f15aabe32cda90982c90937da43549c7f25d0d6c10225e8"), looks := false }, kinds := [], alts := [], laidByText := true, laidKinds := [.data], laidTests := true, laidLooks := .later }
def ModesActiveUptoCardSaid : Prop := Claim7.holds Tryd.pinned (.plain (OpenSpec.upto modesActiveSpec)) modesActiveUptoCard
end Rows
end Go.Proofs.YtgnkbcflkalhjaaDoor
