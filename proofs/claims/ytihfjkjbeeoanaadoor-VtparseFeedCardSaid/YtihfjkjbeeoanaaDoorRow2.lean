/-
  What the listed tables of the library give, a world in which they lie, and how the arguments of the statements of layer 6 read that are parsers and strings.
-/
import Derived.Test.YtihfjkjbeeoanaaDoorCards
import Derived.Test.YtihfjkjbeeoanaaDoorTie
import Derived.Test.YtihfjkjbeeoanaaDoorKp
import Derived.Lib.LaidU8T
import Derived.Lib.LaidIn
import Derived.PinnedBridge
import Derived.Deep.DeepHandedRow
import Derived.Deep.DeepWitnessRowRef
import Derived.ProofKit
import Derived.OpenShut
import Derived.ShutString
import Derived.SizedLaws
import Derived.Lib.SmallJoins
namespace Go.Proofs.YtihfjkjbeeoanaaDoor
open Go.ChangeShapes Go.WideShapes Go.ChangeAt Go.RowKit Go.Shelf

theorem own : ownKnob Tryd.prog.godebug = none := by kernel_rfl
theorem laidOut : laidOutB Tryd.prog = true := by kernel_rfl

/-- The two tables, as the rows list them. -/
theorem tabs2 {W : World} (h : laidMetH Tryd.prog Rows.vtparseFeedRow.laid W) : Lib.Utf8Tabs 0 1 W := by
  have h1 : Lib.VarReads Tryd.prog W _ Rows.laid_unicode_utf8_acceptRanges := Lib.laidMet.reads h (.head _)
  have h2 : Lib.VarReads Tryd.prog W _ Rows.laid_unicode_utf8_first := Lib.laidMet.reads h (.tail _ (.head _))
  unfold Rows.laid_unicode_utf8_first at h2
  rw [Pinned.utf8First_eq] at h2
  have L : U8Types Tryd.prog Tryd.lays197_ren := { Tryd.lays197 with }
  exact utf8Tabs_of_readsT L ⟨by kernel_rfl, by kernel_rfl, by kernel_rfl, by kernel_rfl, by kernel_rfl, by kernel_rfl, by kernel_rfl⟩ h2 h1

/-- The settled world, the two tables holding what their initialisers lay. -/
noncomputable def laidWorld2 (os : Os) : World :=
  let w0 := World.holding Tryd.prog os ⟨#[], #[], []⟩
  let put (h : Array Obj) (g : Nat) (cs : Array Value) : Array Obj := h.modify g fun
    | .cells _ t frozen => .cells cs t frozen
    | o => o
  let h1 := put w0.heap 0 (Lib.firstTab.map fun z => Value.int .u8 z).toArray
  let h2 := put h1 1 ((List.range 16).flatMap fun i => [Value.int .u8 (Lib.accLo i), Value.int .u8 (Lib.accHi i)]).toArray
  { w0 with heap := h2 }
theorem laid_met2 (os : Os) (args : Array Value) : laidMet Tryd.prog Rows.vtparseFeedRow.laid ((laidWorld2 os).forCall (fun _ _ => 0) ⟨#[], args, []⟩).memory :=
  (LaidIn.of_run (l := Rows.vtparseFeedRow.laid) [0, 1] 8 (by kernel_rfl) (by kernel_rfl) (by kernel_rfl) (by kernel_rfl)).met

set_option maxRecDepth 100000 in
/-- An argument that is a parser. -/
theorem open_parser {H : Type} {enc : TypeId × Value → H} {W : World} {b0 : Nat} {v : Value} {d : DataW H} {p : List MemPlace} (hv : Value.okWide Tryd.prog W .any b0 23 v) (h : DataW.Trod enc Tryd.prog W 0 (fun _ => true) true 23 v d p) :
    ∃ x : Vt.P, v = .agg #[.int .i64 x.st, .string (ba x.pe), .string (ba x.bu)] ∧ x.pe.length ≤ 9223372036854775807 ∧ x.bu.length ≤ 9223372036854775807 := by
  obtain ⟨v0, v1, v2, y0, y1, y2, n, rfl, _, _, h0, h1, h2⟩ := Go.Joins.open_agg3 Tryd.underlying23 (by kernel_rfl) (by kernel_rfl) hv h
  obtain ⟨x0, e0, _⟩ := DataW.trod_int Tryd.underlying3 h0
  obtain ⟨x1, e1, _, l1⟩ := DataW.trod_string Tryd.underlying9 h1
  obtain ⟨x2, e2, _, l2⟩ := DataW.trod_string Tryd.underlying9 h2
  simp at e0 e1 e2
  subst e0 e1 e2
  unfold maxLen at l1 l2
  rw [Lib.size_eq] at l1 l2
  exact ⟨⟨x0, x1.data.toList, x2.data.toList⟩, by rw [ba_of, ba_of], by simp only; omega, by simp only; omega⟩
set_option maxRecDepth 100000 in
/-- An argument that is a string. -/
theorem open_text {H : Type} {enc : TypeId × Value → H} {W : World} {b0 : Nat} {v : Value} {d : DataW H} {p : List MemPlace} (hv : Value.okWide Tryd.prog W .any b0 9 v) (h : DataW.Trod enc Tryd.prog W 0 (fun _ => true) true 9 v d p) :
    ∃ x : ByteArray, v = .string x ∧ x.size ≤ 9223372036854775807 := by
  have h' := h
  obtain ⟨x, rfl, _, _, _⟩ := Go.ChangeMaps.open_string Tryd.underlying9 hv h
  obtain ⟨fuel, hf⟩ := h'
  obtain ⟨s, e, _, l⟩ := DataW.trod_string Tryd.underlying9 hf
  simp [Value.cells] at e
  subst e
  unfold maxLen at l
  exact ⟨x, rfl, by omega⟩

end Go.Proofs.YtihfjkjbeeoanaaDoor
