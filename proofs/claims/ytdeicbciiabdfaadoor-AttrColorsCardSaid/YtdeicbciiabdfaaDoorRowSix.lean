/-
  How an argument that is an array of six bytes reads.
-/
import Derived.Test.YtdeicbciiabdfaaDoorRow
import Derived.Test.YtdeicbciiabdfaaDoorColState
namespace Go.Proofs.YtdeicbciiabdfaaDoor
open Go.ChangeShapes Go.WideShapes Go.ChangeAt Go.RowKit

/-- An argument that is an array of six bytes. -/
theorem open_six {H : Type} {enc : TypeId × Value → H} {W : World} {b0 : Nat} {v : Value} {d : DataW H} {p : List MemPlace} (hv : Value.okWide Tryd.prog W .any b0 24 v) (h : DataW.Trod enc Tryd.prog W 0 (fun _ => true) true 24 v d p) :
    ∃ y : Six, y.ok ∧ v = .agg y.cells := by
  have hu := Tryd.underlying24
  simp only [Value.okWide, hu] at hv
  obtain ⟨cs, rfl, hsz, _⟩ := hv
  have c6 : Tryd.prog.cellsOf 24 = 6 := by kernel_rfl
  have c1 : Tryd.prog.cellsOf 5 = 1 := by kernel_rfl
  rw [c6] at hsz
  obtain ⟨fuel, hf⟩ := h
  obtain ⟨xs, m, _, _, _, hxl, hall⟩ := DataW.trod_array hu hf
  simp only [c1, Value.cells] at hall
  have each : ∀ i, i < 6 → ∃ x : Int, (0 ≤ x ∧ x ≤ 255) ∧ cs[i]? = some (.int .u8 x) := by
    intro i hi
    have hi' := hall i hi
    obtain ⟨y, hy⟩ : ∃ y, xs[i]? = some y := ⟨xs[i]'(by omega), List.getElem?_eq_getElem (by omega)⟩
    rw [hy] at hi'
    obtain ⟨x, e, _, wx⟩ := DataW.trod_int Tryd.underlying5 hi'
    refine ⟨x, bounds_u8 wx, ?_⟩
    have e1 := congrArg (fun l : List Value => l[0]?) e
    simpa [List.getElem?_take, List.getElem?_drop] using e1
  obtain ⟨x0, b0, e0⟩ := each 0 (by decide)
  obtain ⟨x1, b1, e1⟩ := each 1 (by decide)
  obtain ⟨x2, b2, e2⟩ := each 2 (by decide)
  obtain ⟨x3, b3, e3⟩ := each 3 (by decide)
  obtain ⟨x4, b4, e4⟩ := each 4 (by decide)
  obtain ⟨x5, b5, e5⟩ := each 5 (by decide)
  refine ⟨⟨x0, x1, x2, x3, x4, x5⟩, ⟨b0, b1, b2, b3, b4, b5⟩, ?_⟩
  obtain ⟨l⟩ := cs
  match l, hsz with
  | [a, b, c, d, e, f], _ =>
    simp at e0 e1 e2 e3 e4 e5
    subst e0 e1 e2 e3 e4 e5
    rfl

end Go.Proofs.YtdeicbciiabdfaaDoor
