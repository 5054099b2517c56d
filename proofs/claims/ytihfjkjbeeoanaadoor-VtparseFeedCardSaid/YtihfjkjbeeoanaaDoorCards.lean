/-
  DERIVED. GIVEN WITH THE SEED: THE CARDS: each row of YtihfjkjbeeoanaaDoorRows.lean that lists a variable, with what it lists TIED to the program's text (the seventh form; the later family's looks); each row that meets fmt, with fmt's text TOLD by the authors' own Lean function (tested against real Go, not proved from fmt's source: count such statements apart). THE CARD IS WHAT COUNTS. Prove the row's statement (the work); the ties are given (YtihfjkjbeeoanaaDoorTie.lean); close each card by the builder's one call (the guide's Derived/Test/ToyasCard.lean, 'card_holds'). Laid BY PROGRAM, IN A SANDBOX (cutbox-door.mjs). By AI agents, Wed Nov 11 2026. No macro, syntax, notation, axiom, sorry.
-/
import Derived.Test.YtihfjkjbeeoanaaDoorRows
import GoSem.ClaimSeven
namespace Go.Proofs.YtihfjkjbeeoanaaDoor
namespace Rows

/-- THE TIED CARD OF 'narratorlaw06.VtparseFeed'. -/
def vtparseFeedCard : Claim7 := { stood := { row := vtparseFeedRow, standIns := [], harness := (true, "b3d5ea662a3021d1ff27bce1c9bf337c26a08df916c2470fc15209f112a7cc63"), looks := false }, kinds := [], alts := [], laidByText := true, laidKinds := [.data, .pinned], laidTests := true, laidLooks := .later }
def VtparseFeedCardSaid : Prop := Claim7.holds Tryd.pinned (.plain (OpenSpec.ofChange vtparseFeedSpec)) vtparseFeedCard

/-- THE SECOND FORM's CARD OF 'narratorlaw06.VtparseFeed'. -/
def vtparseFeedUptoCard : Claim7 := { stood := { row := vtparseFeedUptoRow, standIns := [], harness := (true, "b3d5ea662a3021d1ff27bce1c9bf337c26a08df916c2470fc15209f112a7cc63"), looks := false }, kinds := [], alts := [], laidByText := true, laidKinds := [.data, .pinned], laidTests := true, laidLooks := .later }
def VtparseFeedUptoCardSaid : Prop := Claim7.holds Tryd.pinned (.plain (OpenSpec.upto vtparseFeedSpec)) vtparseFeedUptoCard
end Rows
end Go.Proofs.YtihfjkjbeeoanaaDoor
