/-
  DERIVED. GIVEN WITH THE SEED: THE CARDS: each row of YtokeaoapcjlmkaaDoorRows.lean that lists a variable, with what it lists TIED to the program's text (the seventh form; the later family's looks); each row that meets fmt, with fmt's text TOLD by the authors' own Lean function (tested against real Go, not proved from fmt's source: count such statements apart). THE CARD IS WHAT COUNTS. Prove the row's statement (the work); the ties are given (YtokeaoapcjlmkaaDoorTie.lean); close each card by the builder's one call (the guide's Derived/Test/ToyasCard.lean, 'card_holds'). Laid BY PROGRAM, IN A SANDBOX (cutbox-door.mjs). By AI agents, Wed Nov 11 2026. No macro, syntax, notation, axiom, sorry.
-/
import Derived.Test.YtokeaoapcjlmkaaDoorRows
import GoSem.ClaimSeven
namespace Go.Proofs.YtokeaoapcjlmkaaDoor
namespace Rows

/-- THE TIED CARD OF 'narratorlaw08.GridCheck'. -/
def gridCheckCard : Claim7 := { stood := { row := gridCheckRow, standIns := [], harness := (true, "065deca9193873fe5c793ce340b1d48c3561de1bd69d04deca9a056abf1ece3f"), looks := false }, kinds := [], alts := [], laidByText := true, laidKinds := [.data, .pinned], laidTests := true, laidLooks := .later }
def GridCheckCardSaid : Prop := Claim7.holds Tryd.pinned (.plain (OpenSpec.ofChange gridCheckSpec)) gridCheckCard

/-- THE TIED CARD OF 'narratorlaw08.GridScroll'. -/
def gridScrollCard : Claim7 := { stood := { row := gridScrollRow, standIns := [], harness := (true, "065deca9193873fe5c793ce340b1d48c3561de1bd69d04deca9a056abf1ece3f"), looks := false }, kinds := [], alts := [], laidByText := true, laidKinds := [.data, .pinned], laidTests := true, laidLooks := .later }
def GridScrollCardSaid : Prop := Claim7.holds Tryd.pinned (.plain (OpenSpec.ofChange gridScrollSpec)) gridScrollCard

/-- THE TIED CARD OF 'narratorlaw08.GridEdits'. -/
def gridEditsCard : Claim7 := { stood := { row := gridEditsRow, standIns := [], harness := (true, "065deca9193873fe5c793ce340b1d48c3561de1bd69d04deca9a056abf1ece3f"), looks := false }, kinds := [], alts := [], laidByText := true, laidKinds := [.data, .pinned], laidTests := true, laidLooks := .later }
def GridEditsCardSaid : Prop := Claim7.holds Tryd.pinned (.plain (OpenSpec.ofChange gridEditsSpec)) gridEditsCard

/-- THE TIED CARD OF 'narratorlaw08.GridResize'. -/
def gridResizeCard : Claim7 := { stood := { row := gridResizeRow, standIns := [], harness := (true, "065deca9193873fe5c793ce340b1d48c3561de1bd69d04deca9a056abf1ece3f"), looks := false }, kinds := [], alts := [], laidByText := true, laidKinds := [.data, .pinned], laidTests := true, laidLooks := .later }
def GridResizeCardSaid : Prop := Claim7.holds Tryd.pinned (.plain (OpenSpec.ofChange gridResizeSpec)) gridResizeCard

/-- THE TIED CARD OF 'narratorlaw08.GridProper'. -/
def gridProperCard : Claim7 := { stood := { row := gridProperRow, standIns := [], harness := (true, "065deca9193873fe5c793ce340b1d48c3561de1bd69d04deca9a056abf1ece3f"), looks := false }, kinds := [], alts := [], laidByText := true, laidKinds := [.data, .pinned], laidTests := true, laidLooks := .later }
def GridProperCardSaid : Prop := Claim7.holds Tryd.pinned (.plain (OpenSpec.ofChange gridProperSpec)) gridProperCard

/-- THE TIED CARD OF 'narratorlaw08.GridScrollSteps'. -/
def gridScrollStepsCard : Claim7 := { stood := { row := gridScrollStepsRow, standIns := [], harness := (true, "065deca9193873fe5c793ce340b1d48c3561de1bd69d04deca9a056abf1ece3f"), looks := false }, kinds := [], alts := [], laidByText := true, laidKinds := [.data, .pinned], laidTests := true, laidLooks := .later }
def GridScrollStepsCardSaid : Prop := Claim7.holds Tryd.pinned (.plain (OpenSpec.ofChange gridScrollStepsSpec)) gridScrollStepsCard

/-- THE TIED CARD OF 'narratorlaw08.GridScrollBack'. -/
def gridScrollBackCard : Claim7 := { stood := { row := gridScrollBackRow, standIns := [], harness := (true, "065deca9193873fe5c793ce340b1d48c3561de1bd69d04deca9a056abf1ece3f"), looks := false }, kinds := [], alts := [], laidByText := true, laidKinds := [.data, .pinned], laidTests := true, laidLooks := .later }
def GridScrollBackCardSaid : Prop := Claim7.holds Tryd.pinned (.plain (OpenSpec.ofChange gridScrollBackSpec)) gridScrollBackCard

/-- THE TIED CARD OF 'narratorlaw08.GridSizes'. -/
def gridSizesCard : Claim7 := { stood := { row := gridSizesRow, standIns := [], harness := (true, "065deca9193873fe5c793ce340b1d48c3561de1bd69d04deca9a056abf1ece3f"), looks := false }, kinds := [], alts := [], laidByText := true, laidKinds := [.data, .pinned], laidTests := true, laidLooks := .later }
def GridSizesCardSaid : Prop := Claim7.holds Tryd.pinned (.plain (OpenSpec.ofChange gridSizesSpec)) gridSizesCard

/-- THE SECOND FORM's CARD OF 'narratorlaw08.GridCheck'. -/
def gridCheckUptoCard : Claim7 := { stood := { row := gridCheckUptoRow, standIns := [], harness := (true, "065deca9193873fe5c793ce340b1d48c3561de1bd69d04deca9a056abf1ece3f"), looks := false }, kinds := [], alts := [], laidByText := true, laidKinds := [.data, .pinned], laidTests := true, laidLooks := .later }
def GridCheckUptoCardSaid : Prop := Claim7.holds Tryd.pinned (.plain (OpenSpec.upto gridCheckSpec)) gridCheckUptoCard

/-- THE SECOND FORM's CARD OF 'narratorlaw08.GridScroll'. -/
def gridScrollUptoCard : Claim7 := { stood := { row := gridScrollUptoRow, standIns := [], harness := (true, "065deca9193873fe5c793ce340b1d48c3561de1bd69d04deca9a056abf1ece3f"), looks := false }, kinds := [], alts := [], laidByText := true, laidKinds := [.data, .pinned], laidTests := true, laidLooks := .later }
def GridScrollUptoCardSaid : Prop := Claim7.holds Tryd.pinned (.plain (OpenSpec.upto gridScrollSpec)) gridScrollUptoCard

/-- THE SECOND FORM's CARD OF 'narratorlaw08.GridEdits'. -/
def gridEditsUptoCard : Claim7 := { stood := { row := gridEditsUptoRow, standIns := [], harness := (true, "065deca9193873fe5c793ce340b1d48c3561de1bd69d04deca9a056abf1ece3f"), looks := false }, kinds := [], alts := [], laidByText := true, laidKinds := [.data, .pinned], laidTests := true, laidLooks := .later }
def GridEditsUptoCardSaid : Prop := Claim7.holds Tryd.pinned (.plain (OpenSpec.upto gridEditsSpec)) gridEditsUptoCard

/-- THE SECOND FORM's CARD OF 'narratorlaw08.GridResize'. -/
def gridResizeUptoCard : Claim7 := { stood := { row := gridResizeUptoRow, standIns := [], harness := (true, "065deca9193873fe5c793ce340b1d48c3561de1bd69d04deca9a056abf1ece3f"), looks := false }, kinds := [], alts := [], laidByText := true, laidKinds := [.data, .pinned], laidTests := true, laidLooks := .later }
def GridResizeUptoCardSaid : Prop := Claim7.holds Tryd.pinned (.plain (OpenSpec.upto gridResizeSpec)) gridResizeUptoCard

/-- THE SECOND FORM's CARD OF 'narratorlaw08.GridProper'. -/
def gridProperUptoCard : Claim7 := { stood := { row := gridProperUptoRow, standIns := [], harness := (true, "065deca9193873fe5c793ce340b1d48c3561de1bd69d04deca9a056abf1ece3f"), looks := false }, kinds := [], alts := [], laidByText := true, laidKinds := [.data, .pinned], laidTests := true, laidLooks := .later }
def GridProperUptoCardSaid : Prop := Claim7.holds Tryd.pinned (.plain (OpenSpec.upto gridProperSpec)) gridProperUptoCard

/-- THE SECOND FORM's CARD OF 'narratorlaw08.GridScrollSteps'. -/
def gridScrollStepsUptoCard : Claim7 := { stood := { row := gridScrollStepsUptoRow, standIns := [], harness := (true, "065deca9193873fe5c793ce340b1d48c3561de1bd69d04deca9a056abf1ece3f"), looks := false }, kinds := [], alts := [], laidByText := true, laidKinds := [.data, .pinned], laidTests := true, laidLooks := .later }
def GridScrollStepsUptoCardSaid : Prop := Claim7.holds Tryd.pinned (.plain (OpenSpec.upto gridScrollStepsSpec)) gridScrollStepsUptoCard

/-- THE SECOND FORM's CARD OF 'narratorlaw08.GridScrollBack'. -/
def gridScrollBackUptoCard : Claim7 := { stood := { row := gridScrollBackUptoRow, standIns := [], harness := (true, "065deca9193873fe5c793ce340b1d48c3561de1bd69d04deca9a056abf1ece3f"), looks := false }, kinds := [], alts := [], laidByText := true, laidKinds := [.data, .pinned], laidTests := true, laidLooks := .later }
def GridScrollBackUptoCardSaid : Prop := Claim7.holds Tryd.pinned (.plain (OpenSpec.upto gridScrollBackSpec)) gridScrollBackUptoCard

/-- THE SECOND FORM's CARD OF 'narratorlaw08.GridSizes'. -/
def gridSizesUptoCard : Claim7 := { stood := { row := gridSizesUptoRow, standIns := [], harness := (true, "065deca9193873fe5c793ce340b1d48c3561de1bd69d04deca9a056abf1ece3f"), looks := false }, kinds := [], alts := [], laidByText := true, laidKinds := [.data, .pinned], laidTests := true, laidLooks := .later }
def GridSizesUptoCardSaid : Prop := Claim7.holds Tryd.pinned (.plain (OpenSpec.upto gridSizesSpec)) gridSizesUptoCard
end Rows
end Go.Proofs.YtokeaoapcjlmkaaDoor
