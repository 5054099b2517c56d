/-
  What the listed table of the flags gives, a world in which it lies, and how the arguments of the statements of layer 4 read.
-/
import Derived.Test.YtdeicbciiabdfaaDoorCards
import Derived.Test.YtdeicbciiabdfaaDoorTie
import Derived.Test.YtdeicbciiabdfaaDoorParams
import Derived.Lib.LaidIn
import Derived.Lib.LaidTab
import Derived.Deep.DeepHandedRow
import Derived.Deep.DeepWitnessRowRef
import Derived.ProofKit
import Derived.OpenShut
import Derived.SizedLaws
import Derived.Lib.SmallJoins
namespace Go.Proofs.YtdeicbciiabdfaaDoor
open Go.ChangeShapes Go.WideShapes Go.ChangeAt Go.RowKit

theorem own : ownKnob Tryd.prog.godebug = none := by kernel_rfl
theorem laidOut : laidOutB Tryd.prog = true := by kernel_rfl

/-- A struct of three integers that reads as these numbers holds them. -/
theorem three_cells {H : Type} {enc : TypeId × Value → H} {w : World} {base : Nat} {sp : Nat → Bool} {held : Bool} {fuel : Nat} {cs : List Value} {x y z : Int} {p : List MemPlace}
    (h : DataW.trod enc Tryd.prog w base sp held fuel 43 cs = some (.agg [.lit (.int .i64 x), .lit (.int .i64 y), .lit (.int .i64 z)], p)) : cs = [.int .i64 x, .int .i64 y, .int .i64 z] := by
  obtain ⟨y0, y1, y2, n, hx, hl, h0, h1, h2⟩ := Go.Deep.trod_struct3 Tryd.underlying43 h
  have c3 : Tryd.prog.cellsOf 43 = 3 := by kernel_rfl
  have c1 : Tryd.prog.cellsOf 3 = 1 := by kernel_rfl
  rw [c3] at hl
  simp only [c1] at h0 h1 h2
  obtain ⟨x0, e0, rfl, _⟩ := DataW.trod_int Tryd.underlying3 h0
  obtain ⟨x1, e1, rfl, _⟩ := DataW.trod_int Tryd.underlying3 h1
  obtain ⟨x2, e2, rfl, _⟩ := DataW.trod_int Tryd.underlying3 h2
  simp only [Prod.mk.injEq, DataW.agg.injEq, List.cons.injEq, DataW.lit.injEq, Lit.int.injEq, true_and, and_true] at hx
  obtain ⟨⟨rfl, rfl, rfl⟩, _⟩ := hx
  match cs, hl with
  | [v0, v1, v2], _ =>
    simp at e0 e1 e2
    rw [e0, e1, e2]

/-- The table, as every row of this seat lists it. -/
theorem tabs {W : World} (h : laidMetH Tryd.prog Rows.attrColorsRow.laid W) : Tb W := by
  have h' : laidMet Tryd.prog Rows.attrColorsRow.laid W := h
  obtain ⟨_, hv, _⟩ := h'
  obtain ⟨g, t, cs, fuel, p, q, hg, hty, hvar, hd, _, _⟩ := hv
  have n0 : Tryd.prog.globalNamed Rows.attrColorsRow.laid.head!.1 = some 0 := by kernel_rfl
  obtain rfl := Option.some.inj (n0.symm.trans hg)
  have y0 : (Tryd.prog.globals[0]?).map (·.type) = some 44 := by kernel_rfl
  obtain rfl := Option.some.inj (y0.symm.trans hty)
  have c3 : Tryd.prog.cellsOf 43 = 3 := by kernel_rfl
  have c24 : Tryd.prog.cellsOf 44 = 24 := by kernel_rfl
  obtain ⟨xs, m, _, hx, hl, hxl, hall⟩ := DataW.trod_array Tryd.underlying44 hd
  rw [c24] at hl
  simp only [c3] at hall
  unfold Rows.laid_narrator_attr_flagTable at hx
  have hxs := congrArg Prod.fst hx
  simp only [DataW.agg.injEq] at hxs
  have each : ∀ i, i < 8 → (cs.toList.drop (i * 3)).take 3 = [.int .i64 (At.tb.getD i (0, 0, 0)).1, .int .i64 (At.tb.getD i (0, 0, 0)).2.1, .int .i64 (At.tb.getD i (0, 0, 0)).2.2] := by
    intro i hi
    have hi' := hall i hi
    obtain ⟨b, hb⟩ : ∃ b, xs[i]? = some b := ⟨xs[i]'(by omega), List.getElem?_eq_getElem (by omega)⟩
    rw [hb] at hi'
    have hbi : (xs.map (·.1))[i]? = some b.1 := by simp [hb]
    rw [← hxs] at hbi
    obtain ⟨d, q⟩ := b
    apply three_cells
    rw [hi']
    congr 2
    obtain rfl | rfl | rfl | rfl | rfl | rfl | rfl | rfl : i = 0 ∨ i = 1 ∨ i = 2 ∨ i = 3 ∨ i = 4 ∨ i = 5 ∨ i = 6 ∨ i = 7 := by omega
    all_goals
      simp at hbi
      rw [← hbi]
      rfl
  have hcs : cs.toList = tcs.toList := by
    have e0 := each 0 (by decide)
    have e1 := each 1 (by decide)
    have e2 := each 2 (by decide)
    have e3 := each 3 (by decide)
    have e4 := each 4 (by decide)
    have e5 := each 5 (by decide)
    have e6 := each 6 (by decide)
    have e7 := each 7 (by decide)
    generalize cs.toList = l at *
    have step : ∀ k, l.drop k = (l.drop k).take 3 ++ l.drop (k + 3) := fun k => by rw [← List.drop_drop, List.take_append_drop]
    have hend : l.drop 24 = [] := List.drop_eq_nil_of_le (by omega)
    have a0 := step 0
    rw [List.drop_zero] at a0
    rw [a0, step 3, step 6, step 9, step 12, step 15, step 18, step 21, hend]
    simp only [Nat.zero_mul, List.drop_zero, Nat.reduceMul] at e0 e1 e2 e3 e4 e5 e6 e7
    rw [e0, e1, e2, e3, e4, e5, e6, e7]
    rfl
  have hcs' : cs = tcs := Array.toList_inj.1 hcs
  subst hcs'
  unfold World.var? at hvar
  rw [hg, Option.bind_some] at hvar
  split at hvar
  · rename_i cs' t' fr' hh
    injection hvar with hvar
    subst hvar
    exact ⟨t', fr', hh⟩
  · cases hvar

/-- The settled world, the table holding what its initialiser lays. -/
noncomputable def laidWorld (os : Os) : World :=
  let w0 := World.holding Tryd.prog os ⟨#[], #[], []⟩
  let put (h : Array Obj) (g : Nat) (cs : Array Value) : Array Obj := h.modify g fun
    | .cells _ t frozen => .cells cs t frozen
    | o => o
  { w0 with heap := put w0.heap 0 tcs }
theorem laid_met (os : Os) (args : Array Value) : laidMet Tryd.prog Rows.attrColorsRow.laid ((laidWorld os).forCall (fun _ _ => 0) ⟨#[], args, []⟩).memory :=
  (LaidIn.of_run (l := Rows.attrColorsRow.laid) [0] 8 (by kernel_rfl) (by kernel_rfl) (by kernel_rfl) (by kernel_rfl)).met

/-- An argument that is a rendition. -/
theorem open_attr {H : Type} {enc : TypeId × Value → H} {W : World} {b0 : Nat} {v : Value} {d : DataW H} {p : List MemPlace} (hv : Value.okWide Tryd.prog W .any b0 23 v) (h : DataW.Trod enc Tryd.prog W 0 (fun _ => true) true 23 v d p) :
    ∃ a : At.R, v = av a := by
  obtain ⟨v0, v1, v2, y0, y1, y2, n, rfl, _, _, h0, h1, h2⟩ := Go.Joins.open_agg3 Tryd.underlying23 (by kernel_rfl) (by kernel_rfl) hv h
  obtain ⟨x0, e0, _⟩ := DataW.trod_int Tryd.underlying3 h0
  obtain ⟨x1, e1, _⟩ := DataW.trod_int Tryd.underlying3 h1
  obtain ⟨x2, e2, _⟩ := DataW.trod_int Tryd.underlying3 h2
  simp at e0 e1 e2
  subst e0 e1 e2
  exact ⟨⟨x0, x1, x2⟩, rfl⟩
/-- An argument that is a slice of numbers reads as a list of numbers. -/
theorem open_nums {H : Type} {enc : TypeId × Value → H} {W : World} {A : Option Addr} {n c : Nat} {d : DataW H} {p : List MemPlace} (h : DataW.Trod enc Tryd.prog W 0 (fun _ => true) true 28 (.slice A n c) d p) :
    ∃ xs : List Int, Nums W W.heap.size A n xs ∧ (A = none → n = 0 ∧ c = 0) ∧ n ≤ 9223372036854775807 ∧ ∀ z ∈ xs, -9223372036854775808 ≤ z ∧ z ≤ 9223372036854775807 := by
  obtain ⟨fuel, hf⟩ := h
  rcases open_ints Tryd.underlying28 Tryd.underlying3 (by kernel_rfl) hf with ⟨hcs, _⟩ | ⟨x, l, cap, zs, hcs, _, hl, hm, hz, _, hcell, hwz⟩
  · simp [Value.cells] at hcs
    obtain ⟨rfl, rfl, rfl⟩ := hcs
    exact ⟨[], ⟨rfl, fun j hj => by omega⟩, fun _ => ⟨rfl, rfl⟩, by omega, fun z hz => by cases hz⟩
  · simp [Value.cells] at hcs
    obtain ⟨rfl, rfl, rfl⟩ := hcs
    have hz : zs.length = c := by simpa using hz
    refine ⟨zs.take n, ⟨by rw [List.length_take]; omega, fun j hj => ?_⟩, (fun e => by cases e), by unfold maxLen at hm; omega, fun z hzm => bounds_i64 (hwz z (List.mem_of_mem_take hzm))⟩
    obtain ⟨b, off, spot⟩ := x
    have hc := hcell j (by omega)
    have hspot : spot = none := by
      have h0 := hcell 0 (by omega)
      simpa [Addr.add] using World.cell?_spot h0
    subst hspot
    have ea : (⟨b, off, none⟩ : Addr).add j = ⟨b, off + j, none⟩ := by
      by_cases h0 : j = 0
      · subst h0; simp [Addr.add]
      · simp [Addr.add, h0]
    rw [ea] at hc
    refine ⟨b, off, rfl, ?_, ?_⟩
    · rcases Nat.lt_or_ge b W.heap.size with hlt | hge
      · exact hlt
      · simp [World.cell?, Array.getElem?_eq_none hge] at hc
    · rw [hc]
      congr 2
      simp [List.getD_eq_getElem?_getD, hj]

end Go.Proofs.YtdeicbciiabdfaaDoor
