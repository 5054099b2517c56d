/-
  NARROWER THAN 'FOR EVERY INPUT', by the rows' own cells (each row's printed sentence says how): ModesSet: laid · ModesCharacters: laid · ModesConcatenation: laid · ModesLast: laid · ModesSeparation: laid · ModesDenoted: laid · ModesGraphics: laid · ModesActive: laid.
  DERIVED. THE GIVEN ROWS OF THIS SEAT. 8 by the template 'for every input the law returns true; each argument reads behind the call as it read before'; 0 by the template 'total and deterministic' (their statements: YtgnkbcflkalhjaaDoorTotals.lean).
  GIVEN WITH THE SEED: the statements are not yours to turn. If you find one false, say at which input.
  Laid BY PROGRAM, IN A SANDBOX (cutbox-rows.mjs): the forced cells as the released guide's own fill.sh prints them over the translation e0a326154f0e4509… (all of the seat's roots in one cut). By AI agents, Wed Nov 11 2026. No macro, syntax, notation, axiom, sorry.
-/
import Derived.Test.YtgnkbcflkalhjaaDoorChecked
import GoSem.Claim
import GoSem.ClaimJoined
import GoSem.ClaimMapViews
import Derived.JoinedTies
import Derived.KernelRfl
namespace Go.Proofs.YtgnkbcflkalhjaaDoor
/- THE CELL 'sum', in the pinned program and in every row, IS THE sha256 OF THE DUMP (.gsa) THAT YtgnkbcflkalhjaaDoorProg.lean LOADS. Nothing in Lean hashes anything: it is a label: what it is worth is what the hold of that sum in a sandbox is worth. -/
noncomputable def Tryd.pinned : Pinned := { name := "ytgnkbcflkalhjaadoor", sum := "e0a326154f0e450977afc4283cb86782fdacc3bbbf2298cd82a942bd5fd3e42b", checked := Tryd.checked }
namespace Rows
def none {H : Type} : Left H := { results := [], args := [] }

/- WHAT THE LISTED PACKAGE-LEVEL VARIABLES READ AS WHEN THE CALL BEGINS. Each datum BY PROGRAM (the guide's laid-datum.mjs) off the statement by which the dump's own 'gosem.cut.vars' lays the variable. In a bare row this is a premise. The card (YtgnkbcflkalhjaaDoorCards.lean) ties it to the program's text. -/
def laid_narrator_modes_replacements {H : Type} : DataW H := .agg [.lit (.int .i32 160), .lit (.int .i32 9670), .lit (.int .i32 9618), .lit (.int .i32 9225), .lit (.int .i32 9228), .lit (.int .i32 9229), .lit (.int .i32 9226), .lit (.int .i32 176), .lit (.int .i32 177), .lit (.int .i32 9252), .lit (.int .i32 9227), .lit (.int .i32 9496), .lit (.int .i32 9488), .lit (.int .i32 9484), .lit (.int .i32 9492), .lit (.int .i32 9532), .lit (.int .i32 9146), .lit (.int .i32 9147), .lit (.int .i32 9472), .lit (.int .i32 9148), .lit (.int .i32 9149), .lit (.int .i32 9500), .lit (.int .i32 9508), .lit (.int .i32 9524), .lit (.int .i32 9516), .lit (.int .i32 9474), .lit (.int .i32 8804), .lit (.int .i32 8805), .lit (.int .i32 960), .lit (.int .i32 8800), .lit (.int .i32 163), .lit (.int .i32 183)]

/-- 'narratorlaw11.ModesSet': WHATEVER THE INPUT: true; the input reads as it did. -/
def modesSetSpec : ChangeSpec := { name := "modesSet", fn := fun _ => fun
  | [d1, d2, d3, d4] => { results := [.lit (.bool true)], args := [d1, d2, d3, d4] }
  | _ => none }
def modesSetRow : OpenClaim := { program := "ytgnkbcflkalhjaadoor", sum := "e0a326154f0e450977afc4283cb86782fdacc3bbbf2298cd82a942bd5fd3e42b", func := "narrator/narratorlaw11.ModesSet", spec := "modesSet", unfollowed := true, recurses := true, named := ["narrator/modes.replacements"], apart := false, laid := [("narrator/modes.replacements", laid_narrator_modes_replacements)] }
def ModesSetSaid : Prop := modesSetRow.holds Tryd.pinned (OpenSpec.ofChange modesSetSpec)

/-- ITS FALSE NEIGHBOUR: 'it returns false'. Refute it at one input. -/
def modesSetWrong : ChangeSpec := { name := "modesSet", fn := fun _ => fun
  | [d1, d2, d3, d4] => { results := [.lit (.bool false)], args := [d1, d2, d3, d4] }
  | _ => none }
def ModesSetWrongFalsely : Prop := modesSetRow.holds Tryd.pinned (OpenSpec.ofChange modesSetWrong)

/-- 'narratorlaw11.ModesCharacters': WHATEVER THE INPUT: true; the input reads as it did. -/
def modesCharactersSpec : ChangeSpec := { name := "modesCharacters", fn := fun _ => fun
  | [d1, d2, d3, d4, d5] => { results := [.lit (.bool true)], args := [d1, d2, d3, d4, d5] }
  | _ => none }
def modesCharactersRow : OpenClaim := { program := "ytgnkbcflkalhjaadoor", sum := "e0a326154f0e450977afc4283cb86782fdacc3bbbf2298cd82a942bd5fd3e42b", func := "narrator/narratorlaw11.ModesCharacters", spec := "modesCharacters", unfollowed := true, recurses := true, named := ["narrator/modes.replacements"], apart := false, laid := [("narrator/modes.replacements", laid_narrator_modes_replacements)] }
def ModesCharactersSaid : Prop := modesCharactersRow.holds Tryd.pinned (OpenSpec.ofChange modesCharactersSpec)

/-- ITS FALSE NEIGHBOUR: 'it returns false'. Refute it at one input. -/
def modesCharactersWrong : ChangeSpec := { name := "modesCharacters", fn := fun _ => fun
  | [d1, d2, d3, d4, d5] => { results := [.lit (.bool false)], args := [d1, d2, d3, d4, d5] }
  | _ => none }
def ModesCharactersWrongFalsely : Prop := modesCharactersRow.holds Tryd.pinned (OpenSpec.ofChange modesCharactersWrong)

/-- 'narratorlaw11.ModesConcatenation': WHATEVER THE INPUT: true; the input reads as it did. -/
def modesConcatenationSpec : ChangeSpec := { name := "modesConcatenation", fn := fun _ => fun
  | [d1, d2, d3, d4, d5] => { results := [.lit (.bool true)], args := [d1, d2, d3, d4, d5] }
  | _ => none }
def modesConcatenationRow : OpenClaim := { program := "ytgnkbcflkalhjaadoor", sum := "e0a326154f0e450977afc4283cb86782fdacc3bbbf2298cd82a942bd5fd3e42b", func := "narrator/narratorlaw11.ModesConcatenation", spec := "modesConcatenation", unfollowed := true, recurses := true, named := ["narrator/modes.replacements"], apart := false, laid := [("narrator/modes.replacements", laid_narrator_modes_replacements)] }
def ModesConcatenationSaid : Prop := modesConcatenationRow.holds Tryd.pinned (OpenSpec.ofChange modesConcatenationSpec)

/-- ITS FALSE NEIGHBOUR: 'it returns false'. Refute it at one input. -/
def modesConcatenationWrong : ChangeSpec := { name := "modesConcatenation", fn := fun _ => fun
  | [d1, d2, d3, d4, d5] => { results := [.lit (.bool false)], args := [d1, d2, d3, d4, d5] }
  | _ => none }
def ModesConcatenationWrongFalsely : Prop := modesConcatenationRow.holds Tryd.pinned (OpenSpec.ofChange modesConcatenationWrong)

/-- 'narratorlaw11.ModesLast': WHATEVER THE INPUT: true; the input reads as it did. -/
def modesLastSpec : ChangeSpec := { name := "modesLast", fn := fun _ => fun
  | [d1, d2, d3, d4] => { results := [.lit (.bool true)], args := [d1, d2, d3, d4] }
  | _ => none }
def modesLastRow : OpenClaim := { program := "ytgnkbcflkalhjaadoor", sum := "e0a326154f0e450977afc4283cb86782fdacc3bbbf2298cd82a942bd5fd3e42b", func := "narrator/narratorlaw11.ModesLast", spec := "modesLast", unfollowed := true, recurses := true, named := ["narrator/modes.replacements"], apart := false, laid := [("narrator/modes.replacements", laid_narrator_modes_replacements)] }
def ModesLastSaid : Prop := modesLastRow.holds Tryd.pinned (OpenSpec.ofChange modesLastSpec)

/-- ITS FALSE NEIGHBOUR: 'it returns false'. Refute it at one input. -/
def modesLastWrong : ChangeSpec := { name := "modesLast", fn := fun _ => fun
  | [d1, d2, d3, d4] => { results := [.lit (.bool false)], args := [d1, d2, d3, d4] }
  | _ => none }
def ModesLastWrongFalsely : Prop := modesLastRow.holds Tryd.pinned (OpenSpec.ofChange modesLastWrong)

/-- 'narratorlaw11.ModesSeparation': WHATEVER THE INPUT: true; the input reads as it did. -/
def modesSeparationSpec : ChangeSpec := { name := "modesSeparation", fn := fun _ => fun
  | [d1, d2, d3, d4, d5, d6] => { results := [.lit (.bool true)], args := [d1, d2, d3, d4, d5, d6] }
  | _ => none }
def modesSeparationRow : OpenClaim := { program := "ytgnkbcflkalhjaadoor", sum := "e0a326154f0e450977afc4283cb86782fdacc3bbbf2298cd82a942bd5fd3e42b", func := "narrator/narratorlaw11.ModesSeparation", spec := "modesSeparation", unfollowed := true, recurses := true, named := ["narrator/modes.replacements"], apart := false, laid := [("narrator/modes.replacements", laid_narrator_modes_replacements)] }
def ModesSeparationSaid : Prop := modesSeparationRow.holds Tryd.pinned (OpenSpec.ofChange modesSeparationSpec)

/-- ITS FALSE NEIGHBOUR: 'it returns false'. Refute it at one input. -/
def modesSeparationWrong : ChangeSpec := { name := "modesSeparation", fn := fun _ => fun
  | [d1, d2, d3, d4, d5, d6] => { results := [.lit (.bool false)], args := [d1, d2, d3, d4, d5, d6] }
  | _ => none }
def ModesSeparationWrongFalsely : Prop := modesSeparationRow.holds Tryd.pinned (OpenSpec.ofChange modesSeparationWrong)

/-- 'narratorlaw11.ModesDenoted': WHATEVER THE INPUT: true; the input reads as it did. -/
def modesDenotedSpec : ChangeSpec := { name := "modesDenoted", fn := fun _ => fun
  | [d1, d2, d3] => { results := [.lit (.bool true)], args := [d1, d2, d3] }
  | _ => none }
def modesDenotedRow : OpenClaim := { program := "ytgnkbcflkalhjaadoor", sum := "e0a326154f0e450977afc4283cb86782fdacc3bbbf2298cd82a942bd5fd3e42b", func := "narrator/narratorlaw11.ModesDenoted", spec := "modesDenoted", unfollowed := true, recurses := true, named := ["narrator/modes.replacements"], apart := false, laid := [("narrator/modes.replacements", laid_narrator_modes_replacements)] }
def ModesDenotedSaid : Prop := modesDenotedRow.holds Tryd.pinned (OpenSpec.ofChange modesDenotedSpec)

/-- ITS FALSE NEIGHBOUR: 'it returns false'. Refute it at one input. -/
def modesDenotedWrong : ChangeSpec := { name := "modesDenoted", fn := fun _ => fun
  | [d1, d2, d3] => { results := [.lit (.bool false)], args := [d1, d2, d3] }
  | _ => none }
def ModesDenotedWrongFalsely : Prop := modesDenotedRow.holds Tryd.pinned (OpenSpec.ofChange modesDenotedWrong)

/-- 'narratorlaw11.ModesGraphics': WHATEVER THE INPUT: true; the input reads as it did. -/
def modesGraphicsSpec : ChangeSpec := { name := "modesGraphics", fn := fun _ => fun
  | [d1, d2, d3] => { results := [.lit (.bool true)], args := [d1, d2, d3] }
  | _ => none }
def modesGraphicsRow : OpenClaim := { program := "ytgnkbcflkalhjaadoor", sum := "e0a326154f0e450977afc4283cb86782fdacc3bbbf2298cd82a942bd5fd3e42b", func := "narrator/narratorlaw11.ModesGraphics", spec := "modesGraphics", unfollowed := true, recurses := true, named := ["narrator/modes.replacements"], apart := false, laid := [("narrator/modes.replacements", laid_narrator_modes_replacements)] }
def ModesGraphicsSaid : Prop := modesGraphicsRow.holds Tryd.pinned (OpenSpec.ofChange modesGraphicsSpec)

/-- ITS FALSE NEIGHBOUR: 'it returns false'. Refute it at one input. -/
def modesGraphicsWrong : ChangeSpec := { name := "modesGraphics", fn := fun _ => fun
  | [d1, d2, d3] => { results := [.lit (.bool false)], args := [d1, d2, d3] }
  | _ => none }
def ModesGraphicsWrongFalsely : Prop := modesGraphicsRow.holds Tryd.pinned (OpenSpec.ofChange modesGraphicsWrong)

/-- 'narratorlaw11.ModesActive': WHATEVER THE INPUT: true; the input reads as it did. -/
def modesActiveSpec : ChangeSpec := { name := "modesActive", fn := fun _ => fun
  | [d1, d2, d3] => { results := [.lit (.bool true)], args := [d1, d2, d3] }
  | _ => none }
def modesActiveRow : OpenClaim := { program := "ytgnkbcflkalhjaadoor", sum := "e0a326154f0e450977afc4283cb86782fdacc3bbbf2298cd82a942bd5fd3e42b", func := "narrator/narratorlaw11.ModesActive", spec := "modesActive", unfollowed := true, recurses := true, named := ["narrator/modes.replacements"], apart := false, laid := [("narrator/modes.replacements", laid_narrator_modes_replacements)] }
def ModesActiveSaid : Prop := modesActiveRow.holds Tryd.pinned (OpenSpec.ofChange modesActiveSpec)

/-- ITS FALSE NEIGHBOUR: 'it returns false'. Refute it at one input. -/
def modesActiveWrong : ChangeSpec := { name := "modesActive", fn := fun _ => fun
  | [d1, d2, d3] => { results := [.lit (.bool false)], args := [d1, d2, d3] }
  | _ => none }
def ModesActiveWrongFalsely : Prop := modesActiveRow.holds Tryd.pinned (OpenSpec.ofChange modesActiveWrong)

/- THE SECOND FORM. 'bulk': how many values and letters a reading holds, each counted each time it is reached (what is shared counts as often as it is met; a slice's spare places count too). A statement '..UptoSaid' is the law's where the arguments, and the package variables that the reading takes, are together of bulk at most 1048576: NARROWER than '..Said'. Prove '..Said' where nothing that the law and all that it calls make is longer than what came in: it says more and counts as full. Else prove '..UptoSaid'. A law counts once. -/
mutual
def uptoBulk {H : Type} : DataW H → Nat
  | .lit (.string bytes) => bytes.length + 1
  | .lit _ => 1
  | .nil => 1
  | .ptr d => uptoBulk d + 1
  | .slice elems spare => uptoBulkAll elems + uptoBulkAll spare + 1
  | .agg parts => uptoBulkAll parts + 1
  | .iface _ d => uptoBulk d + 1
  | .map entries => uptoBulkEntries entries + 1
  | .held _ => 1
def uptoBulkAll {H : Type} : List (DataW H) → Nat
  | [] => 0
  | d :: r => uptoBulk d + uptoBulkAll r
def uptoBulkEntries {H : Type} : List (Lit × DataW H) → Nat
  | [] => 0
  | x :: r => uptoBulkEntry x + uptoBulkEntries r
def uptoBulkEntry {H : Type} : Lit × DataW H → Nat
  | (.string bytes, d) => bytes.length + uptoBulk d + 1
  | (_, d) => uptoBulk d + 1
 end
def uptoSmall : (H : Type) → List (DataW H) → Bool := fun _ ds => decide (uptoBulkAll ds ≤ 1048576)
def OpenSpec.upto (s : _root_.Go.ChangeSpec) : _root_.Go.OpenSpec := { _root_.Go.OpenSpec.ofChange s with cond := some uptoSmall }

/-- 'narratorlaw11.ModesSet', WHERE WHAT IT READS IS OF BULK AT MOST 1048576: true; the input reads as it did. -/
def modesSetUptoRow : OpenClaim := { program := "ytgnkbcflkalhjaadoor", sum := "e0a326154f0e450977afc4283cb86782fdacc3bbbf2298cd82a942bd5fd3e42b", func := "narrator/narratorlaw11.ModesSet", spec := "modesSet", unfollowed := true, recurses := true, named := ["narrator/modes.replacements"], apart := false, laid := [("narrator/modes.replacements", laid_narrator_modes_replacements)], narrowed := true }
def ModesSetUptoSaid : Prop := modesSetUptoRow.holds Tryd.pinned (OpenSpec.upto modesSetSpec)

/-- 'narratorlaw11.ModesCharacters', WHERE WHAT IT READS IS OF BULK AT MOST 1048576: true; the input reads as it did. -/
def modesCharactersUptoRow : OpenClaim := { program := "ytgnkbcflkalhjaadoor", sum := "e0a326154f0e450977afc4283cb86782fdacc3bbbf2298cd82a942bd5fd3e42b", func := "narrator/narratorlaw11.ModesCharacters", spec := "modesCharacters", unfollowed := true, recurses := true, named := ["narrator/modes.replacements"], apart := false, laid := [("narrator/modes.replacements", laid_narrator_modes_replacements)], narrowed := true }
def ModesCharactersUptoSaid : Prop := modesCharactersUptoRow.holds Tryd.pinned (OpenSpec.upto modesCharactersSpec)

/-- 'narratorlaw11.ModesConcatenation', WHERE WHAT IT READS IS OF BULK AT MOST 1048576: true; the input reads as it did. -/
def modesConcatenationUptoRow : OpenClaim := { program := "ytgnkbcflkalhjaadoor", sum := "e0a326154f0e450977afc4283cb86782fdacc3bbbf2298cd82a942bd5fd3e42b", func := "narrator/narratorlaw11.ModesConcatenation", spec := "modesConcatenation", unfollowed := true, recurses := true, named := ["narrator/modes.replacements"], apart := false, laid := [("narrator/modes.replacements", laid_narrator_modes_replacements)], narrowed := true }
def ModesConcatenationUptoSaid : Prop := modesConcatenationUptoRow.holds Tryd.pinned (OpenSpec.upto modesConcatenationSpec)

/-- 'narratorlaw11.ModesLast', WHERE WHAT IT READS IS OF BULK AT MOST 1048576: true; the input reads as it did. -/
def modesLastUptoRow : OpenClaim := { program := "ytgnkbcflkalhjaadoor", sum := "e0a326154f0e450977afc4283cb86782fdacc3bbbf2298cd82a942bd5fd3e42b", func := "narrator/narratorlaw11.ModesLast", spec := "modesLast", unfollowed := true, recurses := true, named := ["narrator/modes.replacements"], apart := false, laid := [("narrator/modes.replacements", laid_narrator_modes_replacements)], narrowed := true }
def ModesLastUptoSaid : Prop := modesLastUptoRow.holds Tryd.pinned (OpenSpec.upto modesLastSpec)

/-- 'narratorlaw11.ModesSeparation', WHERE WHAT IT READS IS OF BULK AT MOST 1048576: true; the input reads as it did. -/
def modesSeparationUptoRow : OpenClaim := { program := "ytgnkbcflkalhjaadoor", sum := "e0a326154f0e450977afc4283cb86782fdacc3bbbf2298cd82a942bd5fd3e42b", func := "narrator/narratorlaw11.ModesSeparation", spec := "modesSeparation", unfollowed := true, recurses := true, named := ["narrator/modes.replacements"], apart := false, laid := [("narrator/modes.replacements", laid_narrator_modes_replacements)], narrowed := true }
def ModesSeparationUptoSaid : Prop := modesSeparationUptoRow.holds Tryd.pinned (OpenSpec.upto modesSeparationSpec)

/-- 'narratorlaw11.ModesDenoted', WHERE WHAT IT READS IS OF BULK AT MOST 1048576: true; the input reads as it did. -/
def modesDenotedUptoRow : OpenClaim := { program := "ytgnkbcflkalhjaadoor", sum := "e0a326154f0e450977afc4283cb86782fdacc3bbbf2298cd82a942bd5fd3e42b", func := "narrator/narratorlaw11.ModesDenoted", spec := "modesDenoted", unfollowed := true, recurses := true, named := ["narrator/modes.replacements"], apart := false, laid := [("narrator/modes.replacements", laid_narrator_modes_replacements)], narrowed := true }
def ModesDenotedUptoSaid : Prop := modesDenotedUptoRow.holds Tryd.pinned (OpenSpec.upto modesDenotedSpec)

/-- 'narratorlaw11.ModesGraphics', WHERE WHAT IT READS IS OF BULK AT MOST 1048576: true; the input reads as it did. -/
def modesGraphicsUptoRow : OpenClaim := { program := "ytgnkbcflkalhjaadoor", sum := "e0a326154f0e450977afc4283cb86782fdacc3bbbf2298cd82a942bd5fd3e42b", func := "narrator/narratorlaw11.ModesGraphics", spec := "modesGraphics", unfollowed := true, recurses := true, named := ["narrator/modes.replacements"], apart := false, laid := [("narrator/modes.replacements", laid_narrator_modes_replacements)], narrowed := true }
def ModesGraphicsUptoSaid : Prop := modesGraphicsUptoRow.holds Tryd.pinned (OpenSpec.upto modesGraphicsSpec)

/-- 'narratorlaw11.ModesActive', WHERE WHAT IT READS IS OF BULK AT MOST 1048576: true; the input reads as it did. -/
def modesActiveUptoRow : OpenClaim := { program := "ytgnkbcflkalhjaadoor", sum := "e0a326154f0e450977afc4283cb86782fdacc3bbbf2298cd82a942bd5fd3e42b", func := "narrator/narratorlaw11.ModesActive", spec := "modesActive", unfollowed := true, recurses := true, named := ["narrator/modes.replacements"], apart := false, laid := [("narrator/modes.replacements", laid_narrator_modes_replacements)], narrowed := true }
def ModesActiveUptoSaid : Prop := modesActiveUptoRow.holds Tryd.pinned (OpenSpec.upto modesActiveSpec)

end Rows
end Go.Proofs.YtgnkbcflkalhjaaDoor
