/-
  DERIVED. GIVEN WITH THE SEED: THE CARDS: each row of YtbhhadifhojlbaaDoorRows.lean that lists a variable, with what it lists TIED to the program's text (the seventh form; the later family's looks); each row that meets fmt, with fmt's text TOLD by the authors' own Lean function (tested against real Go, not proved from fmt's source: count such statements apart). THE CARD IS WHAT COUNTS. Prove the row's statement (the work); the ties are given (YtbhhadifhojlbaaDoorTie.lean); close each card by the builder's one call (the guide's Derived/Test/ToyasCard.lean, 'card_holds'). Laid BY PROGRAM, IN A SANDBOX (cutbox-door.mjs). By AI agents, Wed Nov 11 2026. No macro, syntax, notation, axiom, sorry.
-/
import Derived.Test.YtbhhadifhojlbaaDoorRows
import GoSem.ClaimSeven
namespace Go.Proofs.YtbhhadifhojlbaaDoor
namespace Rows

/-- THE TIED CARD OF 'narratorlaw01.Utf8streamDecode'. -/
def utf8streamDecodeCard : Claim7 := { stood := { row := utf8streamDecodeRow, standIns := [], harness := (true, "11c7f712d075395041917bfc5d473f2de8c632eb8150e929aa092d849e981302"), looks := false }, kinds := [], alts := [], laidByText := true, laidKinds := [.data, .pinned], laidTests := true, laidLooks := .later }
def Utf8streamDecodeCardSaid : Prop := Claim7.holds Tryd.pinned (.plain (OpenSpec.ofChange utf8streamDecodeSpec)) utf8streamDecodeCard

/-- THE TIED CARD OF 'narratorlaw01.Utf8streamEncode'. -/
def utf8streamEncodeCard : Claim7 := { stood := { row := utf8streamEncodeRow, standIns := [], harness := (true, "11c7f712d075395041917bfc5d473f2de8c632eb8150e929aa092d849e981302"), looks := false }, kinds := [], alts := [], laidByText := true, laidKinds := [.data, .pinned], laidTests := true, laidLooks := .later }
def Utf8streamEncodeCardSaid : Prop := Claim7.holds Tryd.pinned (.plain (OpenSpec.ofChange utf8streamEncodeSpec)) utf8streamEncodeCard

/-- THE TIED CARD OF 'narratorlaw01.Utf8streamSplit'. -/
def utf8streamSplitCard : Claim7 := { stood := { row := utf8streamSplitRow, standIns := [], harness := (true, "11c7f712d075395041917bfc5d473f2de8c632eb8150e929aa092d849e981302"), looks := false }, kinds := [], alts := [], laidByText := true, laidKinds := [.data, .pinned], laidTests := true, laidLooks := .later }
def Utf8streamSplitCardSaid : Prop := Claim7.holds Tryd.pinned (.plain (OpenSpec.ofChange utf8streamSplitSpec)) utf8streamSplitCard

/-- THE TIED CARD OF 'narratorlaw01.Utf8streamRoundTrip'. -/
def utf8streamRoundTripCard : Claim7 := { stood := { row := utf8streamRoundTripRow, standIns := [], harness := (true, "11c7f712d075395041917bfc5d473f2de8c632eb8150e929aa092d849e981302"), looks := false }, kinds := [], alts := [], laidByText := true, laidKinds := [.data, .pinned], laidTests := true, laidLooks := .later }
def Utf8streamRoundTripCardSaid : Prop := Claim7.holds Tryd.pinned (.plain (OpenSpec.ofChange utf8streamRoundTripSpec)) utf8streamRoundTripCard

/-- THE TIED CARD OF 'narratorlaw01.Utf8streamCanonical'. -/
def utf8streamCanonicalCard : Claim7 := { stood := { row := utf8streamCanonicalRow, standIns := [], harness := (true, "11c7f712d075395041917bfc5d473f2de8c632eb8150e929aa092d849e981302"), looks := false }, kinds := [], alts := [], laidByText := true, laidKinds := [.data, .pinned], laidTests := true, laidLooks := .later }
def Utf8streamCanonicalCardSaid : Prop := Claim7.holds Tryd.pinned (.plain (OpenSpec.ofChange utf8streamCanonicalSpec)) utf8streamCanonicalCard

/-- THE TIED CARD OF 'narratorlaw01.Utf8streamPending'. -/
def utf8streamPendingCard : Claim7 := { stood := { row := utf8streamPendingRow, standIns := [], harness := (true, "11c7f712d075395041917bfc5d473f2de8c632eb8150e929aa092d849e981302"), looks := false }, kinds := [], alts := [], laidByText := true, laidKinds := [.data, .pinned], laidTests := true, laidLooks := .later }
def Utf8streamPendingCardSaid : Prop := Claim7.holds Tryd.pinned (.plain (OpenSpec.ofChange utf8streamPendingSpec)) utf8streamPendingCard

/-- THE TIED CARD OF 'narratorlaw01.Utf8streamGo'. -/
def utf8streamGoCard : Claim7 := { stood := { row := utf8streamGoRow, standIns := [], harness := (true, "11c7f712d075395041917bfc5d473f2de8c632eb8150e929aa092d849e981302"), looks := false }, kinds := [], alts := [], laidByText := true, laidKinds := [.data, .pinned], laidTests := true, laidLooks := .later }
def Utf8streamGoCardSaid : Prop := Claim7.holds Tryd.pinned (.plain (OpenSpec.ofChange utf8streamGoSpec)) utf8streamGoCard

/-- THE TIED CARD OF 'narratorlaw01.Utf8streamSynchronizes'. -/
def utf8streamSynchronizesCard : Claim7 := { stood := { row := utf8streamSynchronizesRow, standIns := [], harness := (true, "11c7f712d075395041917bfc5d473f2de8c632eb8150e929aa092d849e981302"), looks := false }, kinds := [], alts := [], laidByText := true, laidKinds := [.data, .pinned], laidTests := true, laidLooks := .later }
def Utf8streamSynchronizesCardSaid : Prop := Claim7.holds Tryd.pinned (.plain (OpenSpec.ofChange utf8streamSynchronizesSpec)) utf8streamSynchronizesCard

/-- THE SECOND FORM's CARD OF 'narratorlaw01.Utf8streamDecode'. -/
def utf8streamDecodeUptoCard : Claim7 := { stood := { row := utf8streamDecodeUptoRow, standIns := [], harness := (true, "11c7f712d075395041917bfc5d473f2de8c632eb8150e929aa092d849e981302"), looks := false }, kinds := [], alts := [], laidByText := true, laidKinds := [.data, .pinned], laidTests := true, laidLooks := .later }
def Utf8streamDecodeUptoCardSaid : Prop := Claim7.holds Tryd.pinned (.plain (OpenSpec.upto utf8streamDecodeSpec)) utf8streamDecodeUptoCard

/-- THE SECOND FORM's CARD OF 'narratorlaw01.Utf8streamEncode'. -/
def utf8streamEncodeUptoCard : Claim7 := { stood := { row := utf8streamEncodeUptoRow, standIns := [], harness := (true, "11c7f712d075395041917bfc5d473f2de8c632eb8150e929aa092d849e981302"), looks := false }, kinds := [], alts := [], laidByText := true, laidKinds := [.data, .pinned], laidTests := true, laidLooks := .later }
def Utf8streamEncodeUptoCardSaid : Prop := Claim7.holds Tryd.pinned (.plain (OpenSpec.upto utf8streamEncodeSpec)) utf8streamEncodeUptoCard

/-- THE SECOND FORM's CARD OF 'narratorlaw01.Utf8streamSplit'. -/
def utf8streamSplitUptoCard : Claim7 := { stood := { row := utf8streamSplitUptoRow, standIns := [], harness := (true, "11c7f712d075395041917bfc5d473f2de8c632eb8150e929aa092d849e981302"), looks := false }, kinds := [], alts := [], laidByText := true, laidKinds := [.data, .pinned], laidTests := true, laidLooks := .later }
def Utf8streamSplitUptoCardSaid : Prop := Claim7.holds Tryd.pinned (.plain (OpenSpec.upto utf8streamSplitSpec)) utf8streamSplitUptoCard

/-- THE SECOND FORM's CARD OF 'narratorlaw01.Utf8streamRoundTrip'. -/
def utf8streamRoundTripUptoCard : Claim7 := { stood := { row := utf8streamRoundTripUptoRow, standIns := [], harness := (true, "11c7f712d075395041917bfc5d473f2de8c632eb8150e929aa092d849e981302"), looks := false }, kinds := [], alts := [], laidByText := true, laidKinds := [.data, .pinned], laidTests := true, laidLooks := .later }
def Utf8streamRoundTripUptoCardSaid : Prop := Claim7.holds Tryd.pinned (.plain (OpenSpec.upto utf8streamRoundTripSpec)) utf8streamRoundTripUptoCard

/-- THE SECOND FORM's CARD OF 'narratorlaw01.Utf8streamCanonical'. -/
def utf8streamCanonicalUptoCard : Claim7 := { stood := { row := utf8streamCanonicalUptoRow, standIns := [], harness := (true, "11c7f712d075395041917bfc5d473f2de8c632eb8150e929aa092d849e981302"), looks := false }, kinds := [], alts := [], laidByText := true, laidKinds := [.data, .pinned], laidTests := true, laidLooks := .later }
def Utf8streamCanonicalUptoCardSaid : Prop := Claim7.holds Tryd.pinned (.plain (OpenSpec.upto utf8streamCanonicalSpec)) utf8streamCanonicalUptoCard

/-- THE SECOND FORM's CARD OF 'narratorlaw01.Utf8streamPending'. -/
def utf8streamPendingUptoCard : Claim7 := { stood := { row := utf8streamPendingUptoRow, standIns := [], harness := (true, "11c7f712d075395041917bfc5d473f2de8c632eb8150e929aa092d849e981302"), looks := false }, kinds := [], alts := [], laidByText := true, laidKinds := [.data, .pinned], laidTests := true, laidLooks := .later }
def Utf8streamPendingUptoCardSaid : Prop := Claim7.holds Tryd.pinned (.plain (OpenSpec.upto utf8streamPendingSpec)) utf8streamPendingUptoCard

/-- THE SECOND FORM's CARD OF 'narratorlaw01.Utf8streamGo'. -/
def utf8streamGoUptoCard : Claim7 := { stood := { row := utf8streamGoUptoRow, standIns := [], harness := (true, "11c7f712d075395041917bfc5d473f2de8c632eb8150e929aa092d849e981302"), looks := false }, kinds := [], alts := [], laidByText := true, laidKinds := [.data, .pinned], laidTests := true, laidLooks := .later }
def Utf8streamGoUptoCardSaid : Prop := Claim7.holds Tryd.pinned (.plain (OpenSpec.upto utf8streamGoSpec)) utf8streamGoUptoCard

/-- THE SECOND FORM's CARD OF 'narratorlaw01.Utf8streamSynchronizes'. -/
def utf8streamSynchronizesUptoCard : Claim7 := { stood := { row := utf8streamSynchronizesUptoRow, standIns := [], harness := (true, "11c7f712d075395041917bfc5d473f2de8c632eb8150e929aa092d849e981302"), looks := false }, kinds := [], alts := [], laidByText := true, laidKinds := [.data, .pinned], laidTests := true, laidLooks := .later }
def Utf8streamSynchronizesUptoCardSaid : Prop := Claim7.holds Tryd.pinned (.plain (OpenSpec.upto utf8streamSynchronizesSpec)) utf8streamSynchronizesUptoCard
end Rows
end Go.Proofs.YtbhhadifhojlbaaDoor
