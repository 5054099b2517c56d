/-
  What the five listed tables of the library give, and a world in which they lie.
-/
import Derived.Test.YtckknodckiljkaaDoorRow2
import Derived.Test.YtckknodckiljkaaDoorBytes
import Derived.Lib.LaidTab
namespace Go.Proofs.YtckknodckiljkaaDoor
open Go.ChangeShapes Go.WideShapes Go.ChangeAt Go.RowKit Go.Shelf

theorem pow_laid : (Rows.laid_internal_strconv_uint64pow10 : DataW Unit) = Lib.tabData .u64 Lib.pow10Tab := by kernel_rfl
theorem pow_global : Tryd.prog.globalNamed Ci.powName = some 3 := by kernel_rfl

/-- The tables, as the rows list them. -/
theorem tabs5 {W : World} (h : laidMetH Tryd.prog Rows.vtparseValidRow.laid W) : Lib.Utf8Tabs 0 1 W ∧ Ci.Pw W := by
  constructor
  · have h1 : Lib.VarReads Tryd.prog W _ Rows.laid_unicode_utf8_acceptRanges := Lib.laidMet.reads h (.tail _ (.tail _ (.tail _ (.head _))))
    have h2 : Lib.VarReads Tryd.prog W _ Rows.laid_unicode_utf8_first := Lib.laidMet.reads h (.tail _ (.tail _ (.tail _ (.tail _ (.head _)))))
    unfold Rows.laid_unicode_utf8_first at h2
    rw [Pinned.utf8First_eq] at h2
    have L : U8Types Tryd.prog Tryd.lays197_ren := { Tryd.lays197 with }
    exact utf8Tabs_of_readsT L ⟨by kernel_rfl, by kernel_rfl, by kernel_rfl, by kernel_rfl, by kernel_rfl, by kernel_rfl, by kernel_rfl⟩ h2 h1
  · have h1 : Lib.VarReads Tryd.prog W Ci.powName Rows.laid_internal_strconv_uint64pow10 := Lib.laidMet.reads h (.tail _ (.tail _ (.head _)))
    rw [pow_laid] at h1
    obtain ⟨g, t, cs, fuel, p, hg, hty, hvar, hd⟩ := h1
    obtain rfl := Option.some.inj (pow_global.symm.trans hg)
    have y0 : (Tryd.prog.globals[3]?).map (·.type) = some 106 := by kernel_rfl
    obtain rfl := Option.some.inj (y0.symm.trans hty)
    unfold Ci.Pw Lib.TabIs
    rw [hvar, ← Lib.cells_of_tab Tryd.underlying106 Tryd.underlying83 (by kernel_rfl) (by kernel_rfl) hd]

/-- The cells of a table of integers. -/
def cellsIn (d : DataW Unit) : Array Value := match d with
  | .agg ds => (ds.filterMap fun x => match x with | .lit (.int k z) => some (Value.int k z) | _ => none).toArray
  | _ => #[]
/-- The settled world, the tables holding what their initialisers lay. -/
noncomputable def laidWorld5 (os : Os) : World :=
  let w0 := World.holding Tryd.prog os ⟨#[], #[], []⟩
  let put (h : Array Obj) (g : Nat) (cs : Array Value) : Array Obj := h.modify g fun
    | .cells _ t frozen => .cells cs t frozen
    | o => o
  let h1 := put w0.heap 0 (Lib.firstTab.map fun z => Value.int .u8 z).toArray
  let h2 := put h1 1 ((List.range 16).flatMap fun i => [Value.int .u8 (Lib.accLo i), Value.int .u8 (Lib.accHi i)]).toArray
  let h3 := put h2 3 (cellsIn Rows.laid_internal_strconv_uint64pow10)
  let h4 := put h3 4 (cellsIn Rows.laid_math_bits_deBruijn32tab)
  let h5 := put h4 5 (cellsIn Rows.laid_math_bits_deBruijn64tab)
  { w0 with heap := h5 }
theorem laid_met5 (os : Os) (args : Array Value) : laidMet Tryd.prog Rows.vtparseValidRow.laid ((laidWorld5 os).forCall (fun _ _ => 0) ⟨#[], args, []⟩).memory :=
  (LaidIn.of_run (l := Rows.vtparseValidRow.laid) [0, 1, 3, 4, 5] 8 (by kernel_rfl) (by kernel_rfl) (by kernel_rfl) (by kernel_rfl)).met

end Go.Proofs.YtckknodckiljkaaDoor
