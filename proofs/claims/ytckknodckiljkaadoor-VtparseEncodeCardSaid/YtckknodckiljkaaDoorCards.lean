/-
  DERIVED. GIVEN WITH THE SEED: THE CARDS: each row of YtckknodckiljkaaDoorRows.lean that lists a variable, with what it lists TIED to the program's text (the seventh form; the later family's looks); each row that meets fmt, with fmt's text TOLD by the authors' own Lean function (tested against real Go, not proved from fmt's source: count such statements apart). THE CARD IS WHAT COUNTS. Prove the row's statement (the work); the ties are given (YtckknodckiljkaaDoorTie.lean); close each card by the builder's one call (the guide's Derived/Test/ToyasCard.lean, 'card_holds'). Laid BY PROGRAM, IN A SANDBOX (cutbox-door.mjs). By AI agents, Wed Nov 11 2026. No macro, syntax, notation, axiom, sorry.
-/
import Derived.Test.YtckknodckiljkaaDoorRows
import GoSem.ClaimSeven
namespace Go.Proofs.YtckknodckiljkaaDoor
namespace Rows

/-- THE TIED CARD OF 'narratorlaw06.VtparseFeed'. -/
def vtparseFeedCard : Claim7 := { stood := { row := vtparseFeedRow, standIns := [], harness := (true, "da439b5a0e4056266ee6b1818138ff8571004aabceee88a373e9a8fb6448c527"), looks := false }, kinds := [], alts := [], laidByText := true, laidKinds := [.data, .pinned], laidTests := true, laidLooks := .later }
def VtparseFeedCardSaid : Prop := Claim7.holds Tryd.pinned (.plain (OpenSpec.ofChange vtparseFeedSpec)) vtparseFeedCard

/-- THE TIED CARD OF 'narratorlaw06.VtparseEncode'. -/
def vtparseEncodeCard : Claim7 := { stood := { row := vtparseEncodeRow, standIns := [], harness := (true, "da439b5a0e4056266ee6b1818138ff8571004aabceee88a373e9a8fb6448c527"), looks := false }, kinds := [], alts := [], laidByText := true, laidKinds := [.data, .data, .data, .data, .pinned], laidTests := true, laidLooks := .later }
def VtparseEncodeCardSaid : Prop := Claim7.holds Tryd.pinned (.plain (OpenSpec.ofChange vtparseEncodeSpec)) vtparseEncodeCard

/-- THE TIED CARD OF 'narratorlaw06.VtparseSplit'. -/
def vtparseSplitCard : Claim7 := { stood := { row := vtparseSplitRow, standIns := [], harness := (true, "da439b5a0e4056266ee6b1818138ff8571004aabceee88a373e9a8fb6448c527"), looks := false }, kinds := [], alts := [], laidByText := true, laidKinds := [.data, .pinned], laidTests := true, laidLooks := .later }
def VtparseSplitCardSaid : Prop := Claim7.holds Tryd.pinned (.plain (OpenSpec.ofChange vtparseSplitSpec)) vtparseSplitCard

/-- THE TIED CARD OF 'narratorlaw06.VtparseValid'. -/
def vtparseValidCard : Claim7 := { stood := { row := vtparseValidRow, standIns := [], harness := (true, "da439b5a0e4056266ee6b1818138ff8571004aabceee88a373e9a8fb6448c527"), looks := false }, kinds := [], alts := [], laidByText := true, laidKinds := [.data, .data, .data, .data, .pinned], laidTests := true, laidLooks := .later }
def VtparseValidCardSaid : Prop := Claim7.holds Tryd.pinned (.plain (OpenSpec.ofChange vtparseValidSpec)) vtparseValidCard

/-- THE TIED CARD OF 'narratorlaw06.VtparseRoundTrip'. -/
def vtparseRoundTripCard : Claim7 := { stood := { row := vtparseRoundTripRow, standIns := [], harness := (true, "da439b5a0e4056266ee6b1818138ff8571004aabceee88a373e9a8fb6448c527"), looks := false }, kinds := [], alts := [], laidByText := true, laidKinds := [.data, .data, .data, .data, .pinned], laidTests := true, laidLooks := .later }
def VtparseRoundTripCardSaid : Prop := Claim7.holds Tryd.pinned (.plain (OpenSpec.ofChange vtparseRoundTripSpec)) vtparseRoundTripCard

/-- THE TIED CARD OF 'narratorlaw06.VtparseCancel'. -/
def vtparseCancelCard : Claim7 := { stood := { row := vtparseCancelRow, standIns := [], harness := (true, "da439b5a0e4056266ee6b1818138ff8571004aabceee88a373e9a8fb6448c527"), looks := false }, kinds := [], alts := [], laidByText := true, laidKinds := [.data, .pinned], laidTests := true, laidLooks := .later }
def VtparseCancelCardSaid : Prop := Claim7.holds Tryd.pinned (.plain (OpenSpec.ofChange vtparseCancelSpec)) vtparseCancelCard

/-- THE TIED CARD OF 'narratorlaw06.VtparseControls'. -/
def vtparseControlsCard : Claim7 := { stood := { row := vtparseControlsRow, standIns := [], harness := (true, "da439b5a0e4056266ee6b1818138ff8571004aabceee88a373e9a8fb6448c527"), looks := false }, kinds := [], alts := [], laidByText := true, laidKinds := [.data, .data, .data, .data, .pinned], laidTests := true, laidLooks := .later }
def VtparseControlsCardSaid : Prop := Claim7.holds Tryd.pinned (.plain (OpenSpec.ofChange vtparseControlsSpec)) vtparseControlsCard

/-- THE TIED CARD OF 'narratorlaw06.VtparseText'. -/
def vtparseTextCard : Claim7 := { stood := { row := vtparseTextRow, standIns := [], harness := (true, "da439b5a0e4056266ee6b1818138ff8571004aabceee88a373e9a8fb6448c527"), looks := false }, kinds := [], alts := [], laidByText := true, laidKinds := [.data, .pinned], laidTests := true, laidLooks := .later }
def VtparseTextCardSaid : Prop := Claim7.holds Tryd.pinned (.plain (OpenSpec.ofChange vtparseTextSpec)) vtparseTextCard

/-- THE TIED CARD OF 'narratorlaw06.VtparseBroken'. -/
def vtparseBrokenCard : Claim7 := { stood := { row := vtparseBrokenRow, standIns := [], harness := (true, "da439b5a0e4056266ee6b1818138ff8571004aabceee88a373e9a8fb6448c527"), looks := false }, kinds := [], alts := [], laidByText := true, laidKinds := [.data, .data, .data, .data, .pinned], laidTests := true, laidLooks := .later }
def VtparseBrokenCardSaid : Prop := Claim7.holds Tryd.pinned (.plain (OpenSpec.ofChange vtparseBrokenSpec)) vtparseBrokenCard

/-- THE SECOND FORM's CARD OF 'narratorlaw06.VtparseFeed'. -/
def vtparseFeedUptoCard : Claim7 := { stood := { row := vtparseFeedUptoRow, standIns := [], harness := (true, "da439b5a0e4056266ee6b1818138ff8571004aabceee88a373e9a8fb6448c527"), looks := false }, kinds := [], alts := [], laidByText := true, laidKinds := [.data, .pinned], laidTests := true, laidLooks := .later }
def VtparseFeedUptoCardSaid : Prop := Claim7.holds Tryd.pinned (.plain (OpenSpec.upto vtparseFeedSpec)) vtparseFeedUptoCard

/-- THE SECOND FORM's CARD OF 'narratorlaw06.VtparseEncode'. -/
def vtparseEncodeUptoCard : Claim7 := { stood := { row := vtparseEncodeUptoRow, standIns := [], harness := (true, "da439b5a0e4056266ee6b1818138ff8571004aabceee88a373e9a8fb6448c527"), looks := false }, kinds := [], alts := [], laidByText := true, laidKinds := [.data, .data, .data, .data, .pinned], laidTests := true, laidLooks := .later }
def VtparseEncodeUptoCardSaid : Prop := Claim7.holds Tryd.pinned (.plain (OpenSpec.upto vtparseEncodeSpec)) vtparseEncodeUptoCard

/-- THE SECOND FORM's CARD OF 'narratorlaw06.VtparseSplit'. -/
def vtparseSplitUptoCard : Claim7 := { stood := { row := vtparseSplitUptoRow, standIns := [], harness := (true, "da439b5a0e4056266ee6b1818138ff8571004aabceee88a373e9a8fb6448c527"), looks := false }, kinds := [], alts := [], laidByText := true, laidKinds := [.data, .pinned], laidTests := true, laidLooks := .later }
def VtparseSplitUptoCardSaid : Prop := Claim7.holds Tryd.pinned (.plain (OpenSpec.upto vtparseSplitSpec)) vtparseSplitUptoCard

/-- THE SECOND FORM's CARD OF 'narratorlaw06.VtparseValid'. -/
def vtparseValidUptoCard : Claim7 := { stood := { row := vtparseValidUptoRow, standIns := [], harness := (true, "da439b5a0e4056266ee6b1818138ff8571004aabceee88a373e9a8fb6448c527"), looks := false }, kinds := [], alts := [], laidByText := true, laidKinds := [.data, .data, .data, .data, .pinned], laidTests := true, laidLooks := .later }
def VtparseValidUptoCardSaid : Prop := Claim7.holds Tryd.pinned (.plain (OpenSpec.upto vtparseValidSpec)) vtparseValidUptoCard

/-- THE SECOND FORM's CARD OF 'narratorlaw06.VtparseRoundTrip'. -/
def vtparseRoundTripUptoCard : Claim7 := { stood := { row := vtparseRoundTripUptoRow, standIns := [], harness := (true, "da439b5a0e4056266ee6b1818138ff8571004aabceee88a373e9a8fb6448c527"), looks := false }, kinds := [], alts := [], laidByText := true, laidKinds := [.data, .data, .data, .data, .pinned], laidTests := true, laidLooks := .later }
def VtparseRoundTripUptoCardSaid : Prop := Claim7.holds Tryd.pinned (.plain (OpenSpec.upto vtparseRoundTripSpec)) vtparseRoundTripUptoCard

/-- THE SECOND FORM's CARD OF 'narratorlaw06.VtparseCancel'. -/
def vtparseCancelUptoCard : Claim7 := { stood := { row := vtparseCancelUptoRow, standIns := [], harness := (true, "da439b5a0e4056266ee6b1818138ff8571004aabceee88a373e9a8fb6448c527"), looks := false }, kinds := [], alts := [], laidByText := true, laidKinds := [.data, .pinned], laidTests := true, laidLooks := .later }
def VtparseCancelUptoCardSaid : Prop := Claim7.holds Tryd.pinned (.plain (OpenSpec.upto vtparseCancelSpec)) vtparseCancelUptoCard

/-- THE SECOND FORM's CARD OF 'narratorlaw06.VtparseControls'. -/
def vtparseControlsUptoCard : Claim7 := { stood := { row := vtparseControlsUptoRow, standIns := [], harness := (true, "da439b5a0e4056266ee6b1818138ff8571004aabceee88a373e9a8fb6448c527"), looks := false }, kinds := [], alts := [], laidByText := true, laidKinds := [.data, .data, .data, .data, .pinned], laidTests := true, laidLooks := .later }
def VtparseControlsUptoCardSaid : Prop := Claim7.holds Tryd.pinned (.plain (OpenSpec.upto vtparseControlsSpec)) vtparseControlsUptoCard

/-- THE SECOND FORM's CARD OF 'narratorlaw06.VtparseText'. -/
def vtparseTextUptoCard : Claim7 := { stood := { row := vtparseTextUptoRow, standIns := [], harness := (true, "da439b5a0e4056266ee6b1818138ff8571004aabceee88a373e9a8fb6448c527"), looks := false }, kinds := [], alts := [], laidByText := true, laidKinds := [.data, .pinned], laidTests := true, laidLooks := .later }
def VtparseTextUptoCardSaid : Prop := Claim7.holds Tryd.pinned (.plain (OpenSpec.upto vtparseTextSpec)) vtparseTextUptoCard

/-- THE SECOND FORM's CARD OF 'narratorlaw06.VtparseBroken'. -/
def vtparseBrokenUptoCard : Claim7 := { stood := { row := vtparseBrokenUptoRow, standIns := [], harness := (true, "da439b5a0e4056266ee6b1818138ff8571004aabceee88a373e9a8fb6448c527"), looks := false }, kinds := [], alts := [], laidByText := true, laidKinds := [.data, .data, .data, .data, .pinned], laidTests := true, laidLooks := .later }
def VtparseBrokenUptoCardSaid : Prop := Claim7.holds Tryd.pinned (.plain (OpenSpec.upto vtparseBrokenSpec)) vtparseBrokenUptoCard
end Rows
end Go.Proofs.YtckknodckiljkaaDoor
