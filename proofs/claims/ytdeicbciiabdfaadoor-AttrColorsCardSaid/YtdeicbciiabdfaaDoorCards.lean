/-
  DERIVED. GIVEN WITH THE SEED: THE CARDS: each row of YtdeicbciiabdfaaDoorRows.lean that lists a variable, with what it lists TIED to the program's text (the seventh form; the later family's looks); each row that meets fmt, with fmt's text TOLD by the authors' own Lean function (tested against real Go, not proved from fmt's source: count such statements apart). THE CARD IS WHAT COUNTS. Prove the row's statement (the work); the ties are given (YtdeicbciiabdfaaDoorTie.lean); close each card by the builder's one call (the guide's Derived/Test/ToyasCard.lean, 'card_holds'). Laid BY PROGRAM, IN A SANDBOX (cutbox-door.mjs). By AI agents, Wed Nov 11 2026. No macro, syntax, notation, axiom, sorry.
-/
import Derived.Test.YtdeicbciiabdfaaDoorRows
import GoSem.ClaimSeven
namespace Go.Proofs.YtdeicbciiabdfaaDoor
namespace Rows

/-- THE TIED CARD OF 'narratorlaw04.AttrColors'. -/
def attrColorsCard : Claim7 := { stood := { row := attrColorsRow, standIns := [], harness := (true, "1b651f60d5b443741c9df2dd9691a04d5912d373ffbc3313d7df191b4e463de5"), looks := false }, kinds := [], alts := [], laidByText := true, laidKinds := [.data], laidTests := true, laidLooks := .later }
def AttrColorsCardSaid : Prop := Claim7.holds Tryd.pinned (.plain (OpenSpec.ofChange attrColorsSpec)) attrColorsCard

/-- THE SECOND FORM's CARD OF 'narratorlaw04.AttrColors'. -/
def attrColorsUptoCard : Claim7 := { stood := { row := attrColorsUptoRow, standIns := [], harness := (true, "1b651f60d5b443741c9df2dd9691a04d5912d373ffbc3313d7df191b4e463de5"), looks := false }, kinds := [], alts := [], laidByText := true, laidKinds := [.data], laidTests := true, laidLooks := .later }
def AttrColorsUptoCardSaid : Prop := Claim7.holds Tryd.pinned (.plain (OpenSpec.upto attrColorsSpec)) attrColorsUptoCard
end Rows
end Go.Proofs.YtdeicbciiabdfaaDoor
